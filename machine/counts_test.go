package machine_test

import (
	"strconv"
	"testing"

	"coil/api"
	"coil/machine"
)

// counted fails, unless the run of these statements ends with that error and has these Counts, where more tables are kept than
// there are pairs.
func counted(t *testing.T, stmts string, why api.Errno, want machine.Counts) {
	t.Helper()
	c := made(t, mainOf(stmts))
	o, n := machine.Run(c, 5000, api.MaxTabs)
	if o.Why != why || n != want {
		t.Errorf("%s: %v %+v, not %v %+v", stmts, o.Why, n, why, want)
	}
	alike(t, stmts, c, 5000)
}

// TestCounted: P14.1, what is found by tables: Builds, Lookups, Calls, Pairs.
func TestCounted(t *testing.T) {
	for stmts, want := range map[string]machine.Counts{
		"let i I = A{x: 1}; i.m();":                            {1, 1, 1, 1},
		"let i I = A{x: 1}; i.m(); i = A{x: 2}; i.m(); i.m();": {1, 1, 3, 1},
		"let j J = A{x: 1}; j.k();":                            {1, 3, 1, 1},
		"let j J = A{x: 1}; j.k(); j.m(); j.n(j).n(j);":        {1, 3, 4, 1},
		// several classes by one interface, one class by several
		"let i I = new A{x: 1}; i.m(); i = A{x: 1}; i.m();":                                                                {2, 2, 2, 2},
		"let i I = B{a: A{x: 1}, y: \"\"}; i.m(); i = E{c: new C{a: new A{x: 1}}}; i.m(); i = K{a: A{x: 1}, i: i}; i.m();": {3, 3, 3, 3},
		"let a = A{x: 1}; let i I = a; let j J = a; i.m(); j.m(); j.k(); i.m();":                                           {2, 4, 4, 2},
		// by an embedded interface
		"D{i: A{x: 1}}.m();":                          {1, 1, 1, 1},
		"F{z: 1, d: new D{i: A{x: 1}}}.m();":          {1, 1, 1, 1},
		"G{w: 1, j: A{x: 1}}.m();":                    {1, 3, 1, 1},
		"H{i: A{x: 1}, j: A{x: 1}, h: nil *H}.j.k();": {1, 3, 1, 1},
		// by several interfaces, one in the other
		"let i I = D{i: A{x: 1}}; i.m();":                                            {2, 2, 2, 2},
		"let i I = D{i: D{i: A{x: 1}}}; i.m();":                                      {2, 2, 3, 2},
		"D{i: D{i: D{i: A{x: 1}}}}.m();":                                             {2, 2, 3, 2},
		"let i I = G{w: 1, j: A{x: 1}}; i.m();":                                      {2, 4, 2, 2}, // (G, I), (A, J)
		"let i I = P{a: A{x: 1}, b: A{x: 2}, c: A{x: 3}}; i.m();":                    {2, 4, 2, 2}, // (P, I), (A, J)
		"let i I = F{z: 1, d: new D{i: G{w: 1, j: B{a: A{x: 1}, y: \"\"}}}}; i.m();": {3, 5, 3, 3}, // (F, I), (G, I), (B, J)
		"let j J = G{w: 1, j: new G{w: 1, j: A{x: 1}}}; j.n(j).k();":                 {3, 9, 4, 3}, // (G, J), (*G, J), (A, J), and that again
	} {
		counted(t, stmts, api.OK, want)
	}
}

// TestNothingFound: P14.1 and example 1, what goes by no table: no call by an interface, or none that is come to.
func TestNothingFound(t *testing.T) {
	for _, stmts := range []string{
		"",
		"let i I = A{x: 1};",
		"A{x: 1}.m(); new A{x: 1}.k(); B{a: A{x: 1}, y: \"\"}.n(A{x: 1}); E{c: new C{a: new A{x: 1}}}.m(); K{a: A{x: 1}, i: A{x: 1}}.m();",
		"let t T = A{x: 1}; print (t to A).m(); print t to I; print (t to J to T to I to A).x;",
		"let i I = A{x: 1}; if false { i.m(); } while false { i.m(); } print false and i.m() == 1 or true; print true or i.m() == 1;",
		"let i I = A{x: 1}; return 1; i.m();",
	} {
		counted(t, stmts, api.OK, machine.Counts{})
	}
}

// TestErrors: P14.1, runs that end with an error: ahead of the table, or when the method was found.
func TestErrors(t *testing.T) {
	one := machine.Counts{Builds: 1, Lookups: 1, Calls: 1, Pairs: 1}
	for _, x := range []struct {
		stmts string
		why   api.Errno
		n     machine.Counts
	}{
		{"let d = nil *D; d.m();", api.ErrNil, machine.Counts{}},
		{"F{z: 1, d: nil *D}.m();", api.ErrNil, machine.Counts{}},
		{"let f = new F{z: 1, d: nil *D}; f.m();", api.ErrNil, machine.Counts{}},
		{"let h = nil *H; h.i.m();", api.ErrNil, machine.Counts{}},
		{"let j J = A{x: 1}; let p = nil *A; j.n(p.n(p));", api.ErrNil, machine.Counts{}}, // an argument's comes ahead
		{"let t T = 1; (t to I).m();", api.ErrDown, machine.Counts{}},
		{"let i I = nil *A; i.m();", api.ErrNil, one}, // found, and then not followed
		{"D{i: nil *A}.m();", api.ErrNil, one},
		{"let i I = nil *D; i.m();", api.ErrNil, one},
		{"let i I = F{z: 1, d: nil *D}; i.m();", api.ErrNil, one},
		{"let i I = C{a: nil *A}; i.m();", api.ErrNil, one},
		{"let i I = D{i: nil *A}; i.m();", api.ErrNil, machine.Counts{Builds: 2, Lookups: 2, Calls: 2, Pairs: 2}},
		{"let i I = D{i: nil *D}; i.m();", api.ErrNil, machine.Counts{Builds: 2, Lookups: 2, Calls: 2, Pairs: 2}},
		{"let i I = A{x: 1}; i.m(); i.m() to T to text;", api.ErrDown, machine.Counts{Builds: 1, Lookups: 1, Calls: 2, Pairs: 1}},
	} {
		counted(t, x.stmts, x.why, x.n)
	}
}

// TestTooManyCalls: P14.1, a call that is one too many was found, too.
func TestTooManyCalls(t *testing.T) {
	c := made(t, "type I = interface {m(I) int;}; type A = {}; method A.m(i I) int { return i.m(i); } main int { let i I = A{}; return i.m(i); }")
	want := machine.Counts{Builds: 1, Lookups: 1, Calls: api.MaxCalls + 1, Pairs: 1}
	if o, n := machine.Run(c, api.MaxFuel, 1); !same(o, api.Outcome{Why: api.ErrCalls, Steps: 2 + 2*api.MaxCalls + 1}) || n != want {
		t.Error(o, n)
	}
	for _, fuel := range []int{2 * api.MaxCalls, 2*api.MaxCalls + 1, 2*api.MaxCalls + 2, 2*api.MaxCalls + 3, 2*api.MaxCalls + 4} {
		alike(t, "one too many", c, fuel)
	}
}

// TestFuelEnds: P14.1 and example 3, the fuel ends at each step of calls by interfaces: methods are found ahead of their calls'
// being counted.
func TestFuelEnds(t *testing.T) {
	c := made(t, set+"main int { let i I = D{i: A{x: 7}}; let n = i.m(); print n; i = G{w: 1, j: A{x: n}}; return i.m() + D{i: i}.m(); }")
	// let; let, the call, its return; print; set; return, both calls and their returns
	for fuel, calls := range []int{0, 0, 2, 2, 2, 2, 2, 4, 4, 6, 6, 6} {
		o, n := machine.Run(c, fuel, api.MaxTabs)
		if n.Calls != calls || o.Steps != fuel || (o.Why == api.OK) != (fuel == 11) {
			t.Error(fuel, o, n)
		}
	}
	if o := stepwise(t, "the fuel ends", c); !same(o, api.Outcome{Out: []string{"7"}, Value: "14", Steps: 11}) {
		t.Error(o)
	}
}

// classes is a program that goes three times through records of so many classes, each with a method of I's.
func classes(n int) string {
	defs, stmts := "type I = interface {m() int; l() int;}; ", ""
	for i := range n {
		name := "A" + strconv.Itoa(i)
		defs += "type " + name + " = {x int;}; method " + name + ".m() int { return self.x * " + strconv.Itoa(i) + "; } method " + name + ".l() int { return 0; } "
		stmts += "i = " + name + "{x: n}; s = s + i.m(); "
	}
	return defs + "main int { let i I = A0{x: 1}; let s = 0; let n = 0; while n < 3 { n = n + 1; " + stmts + "} return s; }"
}

// TestTables: P14.3, with each number of tables the same comes out; if there are tables for all pairs, each is built once, and
// if there is one too few, each is gone when it is asked again.
func TestTables(t *testing.T) {
	for n := 1; n <= api.MaxTabs+1; n++ {
		c := made(t, classes(n))
		for tabs := 1; tabs <= api.MaxTabs; tabs++ {
			builds := n
			if n > tabs {
				builds = 3 * n
			}
			o, got := machine.Run(c, 1000, tabs)
			if o.Value != strconv.Itoa(6*n*(n-1)/2) || got != (machine.Counts{Builds: builds, Lookups: 2 * builds, Calls: 3 * n, Pairs: n}) {
				t.Error(n, tabs, o, got)
			}
			l, got := machine.Runs(c, tabs, 1000, 1000)
			if n > tabs {
				builds *= 2
			}
			if !same(l[0], o) || !same(l[1], o) || got != (machine.Counts{Builds: builds, Lookups: 2 * builds, Calls: 6 * n, Pairs: n}) {
				t.Error(n, tabs, l, got)
			}
		}
		alike(t, "classes", c, 1000)
	}
}

// TestOneCache: P14.2, runs have one cache: what one has asked for, the next one finds, and what it has made go, not.
func TestOneCache(t *testing.T) {
	c := made(t, mainOf("let i I = A{x: 1}; i.m(); i = new A{x: 1}; i.m();"))
	short, whole := 3, 99 // short comes to the first call alone
	for _, x := range []struct {
		tabs  int
		fuels []int
		n     machine.Counts
	}{
		{1, []int{short}, machine.Counts{Builds: 1, Lookups: 1, Calls: 1, Pairs: 1}},
		{1, []int{short, short, short}, machine.Counts{Builds: 1, Lookups: 1, Calls: 3, Pairs: 1}},
		{1, []int{short, whole}, machine.Counts{Builds: 2, Lookups: 2, Calls: 3, Pairs: 2}},
		{1, []int{whole, short}, machine.Counts{Builds: 3, Lookups: 3, Calls: 3, Pairs: 2}},
		{1, []int{whole, whole}, machine.Counts{Builds: 4, Lookups: 4, Calls: 4, Pairs: 2}},
		{2, []int{whole, short, whole}, machine.Counts{Builds: 2, Lookups: 2, Calls: 5, Pairs: 2}},
		{1, []int{0, 1}, machine.Counts{}},
	} {
		l, n := machine.Runs(c, x.tabs, x.fuels...)
		if n != x.n {
			t.Error(x, n)
		}
		for i, fuel := range x.fuels {
			if o, _ := machine.Run(c, fuel, x.tabs); !same(l[i], o) {
				t.Error(fuel, l[i], o)
			}
		}
	}
}
