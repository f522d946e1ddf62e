package interp_test

import (
	"slices"
	"strings"
	"testing"

	"coil/api"
	"coil/check"
	"coil/interp"
	"coil/parse"
)

// set is the definitions of most tests: B has m and x by a record, C by a pointer, D by an interface, E by a pointer in what a
// pointer points to, F by an interface in such a one; K has twice m, and one of its own.
const set = "type I = interface {m() int;}; type J = interface {m() int; n(I) J;}; type T = interface {}; " +
	"type A = {x int;}; method A.m() int { return self.x; } method A.n(i I) J { return A{x: self.x + i.m()}; } " +
	"type B = {embed a A; y text;}; type C = {embed a *A;}; type D = {embed i I;}; type E = {embed c *C;}; type F = {embed d *D; z int;}; " +
	"type K = {embed a A; embed i I;}; method K.m() int { return self.a.m() * 10 + self.i.m(); } " +
	"type L = {n int; next *L;}; type Q = A; type V = {}; "

// calls has functions of all sorts; say tells when it is come to.
const calls = "func say(n int) int { print n; return n; } func yes(n int) bool { print n; return true; } func no(n int) bool { print n; return false; } " +
	"func twice(n int) int { return n + n; } func none(n int) *A { print n; return nil *A; } func of(n int) A { print n; return A{x: n}; } "

func parsed(t *testing.T, src string) api.Program {
	t.Helper()
	p, err := parse.Program(src)
	if err != nil {
		t.Fatal(src, err)
	}
	return p
}

func checked(t *testing.T, src string) *check.Checked {
	t.Helper()
	return accepted(t, parsed(t, src))
}

func accepted(t *testing.T, p api.Program) *check.Checked {
	t.Helper()
	c, err := check.Program(p)
	if err != nil {
		t.Fatal(err)
	}
	return c
}

// row is a program, or its statements, and what a run with enough fuel must come to; the lines of output with | between.
type row struct {
	src   string
	out   string
	why   api.Errno
	value string
	steps int
}

// runs fails, unless each program comes to what its row says.
func runs(t *testing.T, rows ...row) {
	t.Helper()
	for _, r := range rows {
		c := checked(t, r.src)
		o := interp.Run(c, api.MaxFuel)
		if strings.Join(o.Out, "|") != r.out || o.Why != r.why || o.Value != r.value || o.Steps != r.steps {
			t.Errorf("%s\n%+v, not %q %v %q %d", short(r.src), o, r.out, r.why, r.value, r.steps)
		}
		grows(t, short(r.src), o, func(fuel int) api.Outcome { return interp.Run(c, fuel) })
	}
}

// short is a text without what all have.
func short(src string) string { return strings.TrimPrefix(strings.TrimPrefix(src, set), calls) }

// mains fails, unless these statements of a main one that returns an int come to what their rows say. They stand behind set
// and calls, and ahead of `return 0;`.
func mains(t *testing.T, rows ...row) {
	t.Helper()
	for _, r := range rows {
		r.src = set + calls + "main int { " + r.src + " return 0; }"
		if r.why == api.OK {
			r.value = "0"
			r.steps++
		}
		runs(t, r)
	}
}

// prints fails, unless what is printed of the expression ahead of the arrow is what stands behind it; nothing else is
// counted than the print, the main one's return, and the calls and statements whose number is given.
func prints(t *testing.T, steps int, rows ...string) {
	t.Helper()
	for _, r := range rows {
		x, out, _ := strings.Cut(r, " => ")
		mains(t, row{"print " + x + ";", out, api.OK, "", steps + 1})
	}
}

// grows: P11.3 and P11.4, with each lesser fuel a run ends with api.ErrFuel, as far as it goes, and with more it ends alike.
func grows(t *testing.T, what string, whole api.Outcome, run func(fuel int) api.Outcome) {
	t.Helper()
	n := whole.Steps
	for fuel := range min(n+3, api.MaxFuel+1) {
		if fuel > 30 && fuel < n-30 && fuel%(n/30) > 0 { // not all of very many
			continue
		}
		o := run(fuel)
		switch {
		case fuel >= n && whole.Why == api.ErrFuel:
			if o.Steps < n || len(o.Out) < len(whole.Out) || !slices.Equal(o.Out[:len(whole.Out)], whole.Out) {
				t.Errorf("%s\nfuel %d: %+v, behind %+v", what, fuel, o, whole)
			}
		case fuel >= n:
			if !slices.Equal(o.Out, whole.Out) || o.Why != whole.Why || o.Value != whole.Value || o.Steps != n {
				t.Errorf("%s\nfuel %d: %+v, not %+v", what, fuel, o, whole)
			}
		case o.Why != api.ErrFuel || o.Steps != fuel || o.Value != "" || len(o.Out) > len(whole.Out) || !slices.Equal(o.Out, whole.Out[:len(o.Out)]) || len(o.Out) > fuel:
			t.Errorf("%s\nfuel %d: %+v, of %+v", what, fuel, o, whole)
		}
	}
}

// alone fails, unless an outcome says why, and nothing else.
func alone(t *testing.T, o api.Outcome, why api.Errno) {
	t.Helper()
	if o.Why != why || len(o.Out) > 0 || o.Value != "" || o.Steps != 0 {
		t.Errorf("%+v, not %v alone", o, why)
	}
}
