package check_test

import (
	"errors"
	"strings"
	"testing"

	"coil/api"
	"coil/check"
	"coil/parse"
)

// set is the definitions of most tests. C has m by i, which hides A's; D has m twice at one depth, and x by a.
const set = "type I = interface {m() int;}; type J = interface {m() int; n(I) J;}; type T = interface {}; " +
	"type A = {x int;}; method A.m() int { return self.x; } type B = {embed a A; y text;}; method B.n(i I) J { return nil *B; } " +
	"type C = {embed b *B; embed i I; f fn(int) bool;}; type D = {embed a A; embed i I; embed c {embed a A; z int;};}; " +
	"type L = {n int; next *L;}; type P = *L; type N = int; type Q = A; type E = {}; "

// marked takes the mark @ out of a text, and answers its place; 0, if there is none.
func marked(src string) (string, int) {
	at := strings.Index(src, "@")
	return strings.Replace(src, "@", "", 1), max(at, 0)
}

func parsed(t *testing.T, src string) api.Program {
	t.Helper()
	p, err := parse.Program(src)
	if err != nil {
		t.Fatal(src, err)
	}
	return p
}

// accepted is what is known of a program that must be accepted.
func accepted(t *testing.T, src string) *check.Checked {
	t.Helper()
	c, err := check.Program(parsed(t, src))
	if err != nil || c == nil {
		t.Fatalf("%s: %v", src, err)
	}
	return c
}

// accepts fails, unless each text is accepted.
func accepts(t *testing.T, srcs ...string) {
	t.Helper()
	for _, src := range srcs {
		if c, err := check.Program(parsed(t, src)); err != nil || c == nil {
			t.Errorf("%s: %v", src, err)
		}
	}
}

// refusal is what refuses a program; nil, if it is accepted. It fails, unless the answer is of the form of refusals.
func refusal(t *testing.T, p api.Program) *check.Refusal {
	t.Helper()
	c, err := check.Program(p)
	if err == nil {
		return nil
	}
	var r *check.Refusal
	var why api.Errno
	if !errors.As(err, &r) || c != nil {
		t.Fatal(c, err)
	}
	if !errors.As(err, &why) || why != r.Why || !errors.Is(err, r.Why) || r.Unwrap() != error(r.Why) || r.Error() == "" || r.Why == api.OK {
		t.Errorf("%+v: %v", r, why)
	}
	return r
}

// refuses fails, unless each text is refused by that number, at its mark (at 0, if it has none), with that name.
func refuses(t *testing.T, why api.Errno, name string, srcs ...string) {
	t.Helper()
	for _, src := range srcs {
		text, at := marked(src)
		r := refusal(t, parsed(t, text))
		if want := (check.Refusal{Place: api.Place{At: at}, Why: why, Name: name}); r == nil || *r != want {
			t.Errorf("%s: %+v, not %+v", src, r, want)
		}
	}
}

// id is the class of a type; it fails, if the classes have it not.
func id(t *testing.T, c *check.Checked, src string) int {
	t.Helper()
	x, err := parse.Type(src)
	if err != nil {
		t.Fatal(src, err)
	}
	ids, err := c.Classes().Ids(x)
	if err != nil || ids[0] >= c.Classes().Len() {
		t.Fatal(src, ids, err)
	}
	return ids[0]
}

// classes fails, unless the expression at the mark of each text is of the type behind it. The texts are bodies of a
// function that has variables of many types, ahead of its return.
func classes(t *testing.T, rows ...[2]string) {
	t.Helper()
	for _, row := range rows {
		src, at := marked(function(row[0]))
		c := accepted(t, src)
		found := 0
		for _, x := range c.Types() {
			if x.Where() != at {
				continue
			}
			found++
			if want := id(t, c, row[1]); x.Class != want {
				t.Errorf("%s: %s, not %s", row[0], c.Classes().Label(x.Class), row[1])
			}
		}
		if found != 1 {
			t.Errorf("%s: %d expressions at %d", row[0], found, at)
		}
	}
}

// function is a program with these statements in a function that has variables of many types: their names are those of
// the types, in small letters, with p ahead of them where they are pointers.
func function(stmts string) string {
	return set + "func g(n int, i I) A { return A{x: n}; } " +
		"func f(n int, s text, o bool, i I, j J, t T, a A, b B, c C, d D, e E, l L, pa *A, pb *B, pc *C, pl P, ppa **A, pi *I, fn2 fn(J, int) A, fn0 fn() int) int { " +
		stmts + " return 0; } main int { return 0; }"
}

// wrong fails, unless these statements of such a function are refused by that number, at the mark, with that name.
func wrong(t *testing.T, why api.Errno, name string, bodies ...string) {
	t.Helper()
	for _, b := range bodies {
		refuses(t, why, name, function(b))
	}
}

// right fails, unless these statements of such a function are accepted.
func right(t *testing.T, bodies ...string) {
	t.Helper()
	for _, b := range bodies {
		accepts(t, function(b))
	}
}
