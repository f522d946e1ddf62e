package machine_test

import (
	"fmt"
	"reflect"
	"slices"
	"testing"

	"coil/api"
	"coil/lower"
	"coil/machine"
)

// spoil writes into all of a list, and its spare room.
func spoil[T any](l []T, with T) {
	l = l[:cap(l)]
	for i := range l {
		l[i] = with
	}
}

// whole prints, calls by interfaces and makes records.
const whole = set + "main J { let j J = G{w: 1, j: A{x: 2}}; let n = 0; while n < 5 { print j; print j.m() + n; n = n + 1; j = G{w: n, j: j}; } print \"end\"; return j; }"

// told is a copy of outcomes that shares no memory with them.
func told(l []api.Outcome) string { return fmt.Sprintf("%#v", l) }

// TestAnswers: R2, what is written into an answered list, or into its spare room, changes nothing of later answers, nor of
// others; and an answered list stays as it is, whatever is asked later.
func TestAnswers(t *testing.T) {
	c := made(t, whole)
	first, n := machine.Runs(c, 2, 999, 999, 7)
	before := told(first)
	second, _ := machine.Runs(c, 2, 999, 999, 7)
	for _, o := range second {
		_ = append(o.Out, "more")
		spoil(o.Out, "spoilt")
	}
	_ = append(second[:1], api.Outcome{Value: "spoilt"})
	spoil(second, api.Outcome{Value: "spoilt"})
	o, _ := machine.Run(c, 999, 2)
	spoil(o.Out, "spoilt")
	again, m := machine.Runs(c, 2, 999, 999, 7)
	if told(first) != before || told(again) != before || n != m {
		t.Error("an answer has changed")
	}
}

// TestLists: R2, no two lists of one answer share memory, their spare room included.
func TestLists(t *testing.T) {
	c := made(t, whole)
	fuels := []int{999, 999, 9, 7, 999, 3}
	want, _ := machine.Runs(c, 1, fuels...)
	for i := range fuels {
		l, _ := machine.Runs(c, 1, fuels...)
		_ = append(l[i].Out, "more")
		spoil(l[i].Out, "spoilt")
		for n, o := range l {
			if n != i && !same(o, want[n]) {
				t.Error(i, n, o)
			}
		}
	}
}

// TestFuels: R2, fuels are not changed, nor their spare room.
func TestFuels(t *testing.T) {
	c := made(t, whole)
	for _, tabs := range []int{0, 1, 16} {
		fuels := []int{999, -1, 3, 0, 77, 88}
		machine.Runs(c, tabs, fuels[:4]...)
		if !slices.Equal(fuels, []int{999, -1, 3, 0, 77, 88}) {
			t.Error(fuels)
		}
	}
}

// ofCode is all that there is to say of a program's code.
func ofCode(c *lower.Code) []any {
	classes := c.Checked().Classes()
	return []any{c.Sites(), c.Len(), c.Blocks(), c.Lists(), c.Checked().Types(), c.Checked().Codes(), classes.Text(), classes.Len(), classes.Graph().Len()}
}

// TestStays: R2, R4 and R9, runs change nothing of the code, nor do runs of others: what is run again comes to the same, with
// Counts from the beginning on.
func TestStays(t *testing.T) {
	c, other := made(t, whole), made(t, classes(5))
	said := ofCode(c)
	o, n := machine.Run(c, 999, 1)
	if o.Why != api.OK || n.Builds == 0 {
		t.Fatal(o, n)
	}
	for range 5 {
		machine.Run(other, 999, 1)
		machine.Run(c, 5, 1)
		machine.Run(c, -1, 1)
		machine.Run(c, 999, 16)
		if again, m := machine.Run(c, 999, 1); !same(again, o) || m != n {
			t.Error(again, m)
		}
		if again, m := machine.Run(made(t, whole), 999, 1); !same(again, o) || m != n {
			t.Error(again, m)
		}
	}
	if !reflect.DeepEqual(ofCode(c), said) {
		t.Error("the code has changed")
	}
}
