package interp_test

import (
	"math"
	"slices"
	"testing"

	"coil/api"
	"coil/interp"
)

const (
	fourth = "type I = interface {m() int;}; type A = {x int;}; method A.m() int { return self.x; } main int { let i I = A{x: 7}; return i.m(); }"
	down   = "func f(n int) int { if n < 1 { return 0; } return f(n - 1) + 1; } "
)

// TestRuns: P11.1, the chapter's runs.
func TestRuns(t *testing.T) {
	c := checked(t, "main int { print 1; return 2; }")
	for _, x := range []struct {
		fuel int
		want api.Outcome
	}{
		{5, api.Outcome{Out: []string{"1"}, Value: "2", Steps: 2}},
		{1, api.Outcome{Out: []string{"1"}, Why: api.ErrFuel, Steps: 1}},
		{0, api.Outcome{Why: api.ErrFuel}},
		{-1, api.Outcome{Why: api.ErrRange}},
		{100001, api.Outcome{Why: api.ErrRange}},
	} {
		if o := interp.Run(c, x.fuel); !slices.Equal(o.Out, x.want.Out) || o.Why != x.want.Why || o.Value != x.want.Value || o.Steps != x.want.Steps {
			t.Errorf("%d: %+v, not %+v", x.fuel, o, x.want)
		}
	}
	runs(t,
		row{fourth, "", api.OK, "7", 4},
		row{down + "main int { return f(3); }", "", api.OK, "3", 13},
		row{down + "main int { return f(600); }", "", api.ErrCalls, "", 1502},
		row{"type A = {x int;}; main int { let a = nil *A; return a.x; }", "", api.ErrNil, "", 2},
		row{"main text { let a = \"x\"; while true { a = a + a; } return a; }", "", api.ErrBig, "", 27},
	)
}

// TestExamples: the chapter's examples.
func TestExamples(t *testing.T) {
	runs(t,
		row{"main int { return 1; }", "", api.OK, "1", 1}, // the main one's call isn't counted
		row{"func f() int { return 1; } main fn() int { print f; return f; }", "fn f", api.OK, "fn f", 2},
	)
	c := checked(t, "main int { while true { } return 1; }")
	for _, fuel := range []int{0, 1, 2, 50, 99999, 100000} {
		if o := interp.Run(c, fuel); o.Why != api.ErrFuel || o.Steps != fuel || len(o.Out) > 0 || o.Value != "" {
			t.Error(fuel, o)
		}
	}
}

// TestRefused: P11.1, a nil program, and fuel that is none; the program ahead of the fuel.
func TestRefused(t *testing.T) {
	for _, fuel := range []int{math.MinInt, -1, 0, 1, api.MaxFuel, api.MaxFuel + 1, math.MaxInt} {
		alone(t, interp.Run(nil, fuel), api.ErrArg)
	}
	for _, src := range []string{"main int { print 1; return 2; }", "main int { while true { } return 1; }"} {
		c := checked(t, src)
		for _, fuel := range []int{math.MinInt, -100000, -1, api.MaxFuel + 1, 1 << 32, math.MaxInt} {
			alone(t, interp.Run(c, fuel), api.ErrRange)
		}
	}
}

// TestFuel: P11.1 and P11.3, fuel of just the steps that a run takes, less, more, and the most.
func TestFuel(t *testing.T) {
	c := checked(t, "func f(n int) int { print n; return n; } main int { let i = 0; while i < 3 { f(i); i = i + 1; } return f(7) + i; }")
	const steps = 1 + 1 + 3*(1+1+2+1+1) + 1 + 1 + 2
	whole := interp.Run(c, api.MaxFuel)
	if whole.Why != api.OK || whole.Value != "10" || whole.Steps != steps || !slices.Equal(whole.Out, []string{"0", "1", "2", "7"}) {
		t.Fatal(whole)
	}
	grows(t, "f", whole, func(fuel int) api.Outcome { return interp.Run(c, fuel) })
	if o := interp.Run(c, steps-1); o.Why != api.ErrFuel || o.Steps != steps-1 || !slices.Equal(o.Out, []string{"0", "1", "2", "7"}) || o.Value != "" {
		t.Error(o)
	}
	most := checked(t, "main int { let i = 0; while i < 49998 { i = i + 1; } return i; }") // 1, 49999, 49998, 1
	if o := interp.Run(most, api.MaxFuel); o.Why != api.OK || o.Value != "49998" || o.Steps != 99999 {
		t.Error(o)
	}
	most = checked(t, "main int { let i = 0; while i < 49998 { i = i + 1; } print i; return i; }")
	if o := interp.Run(most, api.MaxFuel); o.Why != api.OK || o.Value != "49998" || o.Steps != 100000 {
		t.Error(o)
	}
	if o := interp.Run(most, api.MaxFuel-1); o.Why != api.ErrFuel || o.Value != "" || o.Steps != 99999 || !slices.Equal(o.Out, []string{"49998"}) {
		t.Error(o)
	}
	most = checked(t, "main int { let i = 0; while i < 49998 { i = i + 1; } print i; print i; return i; }")
	if o := interp.Run(most, api.MaxFuel); o.Why != api.ErrFuel || o.Value != "" || o.Steps != 100000 || len(o.Out) != 2 {
		t.Error(o)
	}
}
