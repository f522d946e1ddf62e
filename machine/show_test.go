package machine_test

import (
	"slices"
	"testing"

	"coil/api"
	"coil/check"
	"coil/interp"
	"coil/lower"
	"coil/machine"
	"coil/parse"
)

// set is the definitions of most tests. I has one method, J three, T none. B has A's methods by a record, C by a pointer, E by
// both; D has I's by an interface, F by one in what a pointer points to, G J's by an interface, P by one among others; K has
// a method of its own.
const set = "type I = interface {m() int;}; type J = interface {n(I) J; m() int; k() text;}; type T = interface {}; " +
	"type A = {x int;}; method A.m() int { return self.x; } method A.k() text { return \"k\"; } method A.n(i I) J { return A{x: self.x}; } " +
	"type B = {embed a A; y text;}; type C = {embed a *A;}; type D = {embed i I;}; type E = {embed c *C;}; type F = {z int; embed d *D;}; type G = {embed j J; w int;}; " +
	"type H = {i I; j J; h *H;}; type P = {a I; embed b J; c I;}; type K = {embed a A; embed i I;}; method K.m() int { return self.x; } "

func parsed(t *testing.T, src string) api.Program {
	t.Helper()
	p, err := parse.Program(src)
	if err != nil {
		t.Fatal(src, err)
	}
	return p
}

func accepted(t *testing.T, p api.Program) *check.Checked {
	t.Helper()
	c, err := check.Program(p)
	if err != nil {
		t.Fatal(err)
	}
	return c
}

func lowered(t *testing.T, c *check.Checked) *lower.Code {
	t.Helper()
	code, why := lower.Program(c)
	if why != api.OK {
		t.Fatal(why)
	}
	return code
}

func made(t *testing.T, src string) *lower.Code {
	t.Helper()
	return lowered(t, accepted(t, parsed(t, src)))
}

// mainOf is a program whose main one has these statements.
func mainOf(stmts string) string { return set + "main int { " + stmts + " return 0; }" }

func same(a, b api.Outcome) bool {
	return slices.Equal(a.Out, b.Out) && a.Why == b.Why && a.Value == b.Value && a.Steps == b.Steps
}

// alone fails, unless a run was refused: with that number alone, and no Counts.
func alone(t *testing.T, what any, o api.Outcome, n machine.Counts, why api.Errno) {
	t.Helper()
	if !same(o, api.Outcome{Why: why}) || n != (machine.Counts{}) {
		t.Error(what, o, n)
	}
}

// follows: P14.3, fails, unless that follows of the Counts, whatever was run.
func follows(t *testing.T, what any, tabs int, n machine.Counts) {
	t.Helper()
	if n.Pairs <= tabs && n.Builds != n.Pairs || n.Builds < n.Pairs || n.Builds > n.Calls {
		t.Fatalf("%v, tabs %d: %+v", what, tabs, n)
	}
}

// alike: C6, fails, unless the program comes to the same by names and by tables, whatever number of tables is kept.
func alike(t *testing.T, src string, c *lower.Code, fuel int) api.Outcome {
	t.Helper()
	want := interp.Run(c.Checked(), fuel)
	for tabs := 1; tabs <= api.MaxTabs; tabs++ {
		got, n := machine.Run(c, fuel, tabs)
		if !same(got, want) {
			t.Fatalf("%s\nfuel %d, tabs %d: %+v, not %+v", src, fuel, tabs, got, want)
		}
		follows(t, src, tabs, n)
	}
	return want
}

// stepwise is the same of each fuel, up to the run's end and behind it.
func stepwise(t *testing.T, src string, c *lower.Code) api.Outcome {
	t.Helper()
	o := alike(t, src, c, 5000)
	for fuel := range o.Steps + 3 {
		alike(t, src, c, fuel)
	}
	return o
}
