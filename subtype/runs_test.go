package subtype_test

import (
	"math"
	"slices"
	"testing"

	"coil/api"
	"coil/subtype"
)

// TestRuns: the chapter's runs.
func TestRuns(t *testing.T) {
	holds(t, runs, "J < I", "A < I", "*A < I", "A < J", "J < K", "fn(I) A < fn(J) I", "{a A;} < {a I;}", "int < interface {}", "fn() int < interface {}")
	fails(t, runs, "I < J", "**A < I", "K < J", "fn(J) A < fn(I) I", "{embed a A;} < {embed a I;}")
	whys(t, runs, [2]string{"I < J", ""}, [2]string{"K < J", "n1 0"})
}

// TestExamples: the chapter's examples.
func TestExamples(t *testing.T) {
	rules(t, runs, "A < I", "fn() int < fn() int")
	whys(t, "", [2]string{"int < bool", ""})
	if rows := subtype.New(made(t, "")).All(); len(rows) != 0 {
		t.Error(rows)
	}
}

// TestNil: P8.1, of nil classes there is no relation.
func TestNil(t *testing.T) {
	if r := subtype.New(nil); r != nil {
		t.Error(r)
	}
}

// TestClasses: P8.1, the relation hands out the classes that it was given, and has their methods.
func TestClasses(t *testing.T) {
	c := made(t, runs, "*A")
	r := subtype.New(c)
	if r.Classes() != c {
		t.Error("other classes")
	}
	a, ok := r.Root("A")
	node, _ := c.Node(a)
	of, _ := r.Of(node)
	if !ok || of != a || r.Len() != c.Len() || r.Label(a) != "record of A x" || !slices.Equal(r.Children(a), c.Children(a)) || r.Text() != c.Text() || r.Graph().Len() != c.Graph().Len() {
		t.Error("other classes are promoted")
	}
	r.All()
	if r.Classes() != c || c.Text() != made(t, runs, "*A").Text() {
		t.Error("the classes have changed")
	}
}

// TestNoClass: P8.1 and P8.2, what is no class, on either side and on both.
func TestNoClass(t *testing.T) {
	for _, src := range []string{runs, ""} {
		r := subtype.New(made(t, src))
		n := r.Len()
		none := []int{-1, n, n + 1, -n - 1, 9999, math.MaxInt, math.MinInt, math.MaxInt32 + 1, 1 << 32}
		var pairs [][2]int
		for _, x := range none {
			for class := range n {
				pairs = append(pairs, [2]int{x, class}, [2]int{class, x})
			}
			for _, y := range none {
				pairs = append(pairs, [2]int{x, y})
			}
		}
		for range 2 { // ahead of what is known, and behind it
			for _, p := range pairs {
				refused(t, r, p)
			}
			r.All()
		}
	}
}

// refused fails, unless the pair is said to be none of classes.
func refused(t *testing.T, r *subtype.Relation, p [2]int) {
	t.Helper()
	if ok, why := r.Below(p[0], p[1]); ok || why != api.ErrArg {
		t.Error("Below", p, ok, why)
	}
	if l, ok := r.Why(p[0], p[1]); len(l) != 0 || ok {
		t.Error("Why", p, l, ok)
	}
	if l, ok := r.Rule(p[0], p[1]); len(l) != 0 || ok {
		t.Error("Rule", p, l, ok)
	}
}

// TestAll: P8.1, as many rows as classes, each of as many, the first class of a pair by rows.
func TestAll(t *testing.T) {
	r := subtype.New(made(t, runs))
	i, _ := r.Root("I")
	j, _ := r.Root("J")
	rows := r.All()
	if len(rows) != r.Len() || !rows[j][i] || rows[i][j] {
		t.Fatal(rows)
	}
	for _, row := range rows {
		if len(row) != r.Len() {
			t.Error(row)
		}
	}
}
