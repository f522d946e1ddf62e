package lower_test

import (
	"slices"
	"strconv"
	"strings"
	"testing"

	"coil/api"
	"coil/check"
	"coil/lower"
	"coil/parse"
)

// set is the definitions of most tests. J's names are not in their order: k is number 0, m 1, n 2. B has A's methods by a
// record, C by a pointer, E by both; D has I's by an interface, F by one in what a pointer points to, G J's.
const set = "type I = interface {m() int;}; type J = interface {n(I) J; m() int; k() text;}; type T = interface {}; " +
	"type A = {x int;}; method A.m() int { return self.x; } method A.k() text { return \"k\"; } method A.n(i I) J { return A{x: self.x}; } " +
	"type B = {embed a A; y text;}; type C = {embed a *A;}; type D = {embed i I;}; type E = {embed c *C;}; type F = {z int; embed d *D;}; type G = {embed j J; w int;}; " +
	"type H = {i I; j J; h *H;}; type K = {embed a A; embed i I;}; method K.m() int { return self.x; } "

func parsed(t *testing.T, src string) api.Program {
	t.Helper()
	p, err := parse.Program(src)
	if err != nil {
		t.Fatal(src, err)
	}
	return p
}

func accepted(t *testing.T, p api.Program) *check.Checked {
	t.Helper()
	c, err := check.Program(p)
	if err != nil {
		t.Fatal(err)
	}
	return c
}

// lowered is the code of a program; it fails, unless that one is told as the program whose code it is.
func lowered(t *testing.T, c *check.Checked) *lower.Code {
	t.Helper()
	code, why := lower.Program(c)
	if code == nil || why != api.OK || code.Checked() != c {
		t.Fatal(code, why)
	}
	return code
}

func made(t *testing.T, src string) *lower.Code {
	t.Helper()
	return lowered(t, accepted(t, parsed(t, src)))
}

// function is a program with these statements in a function that has variables of many types: their names are those of the
// types, in small letters, with p ahead of them where they are pointers. None of the other bodies has a site.
func function(stmts string) string {
	return set + "func f(i I, j J, t T, a A, b B, c C, d D, e E, g G, h H, k K, ff F, pa *A, pc *C, pd *D, pg *G, ph *H, pf *F, fn0 fn(I) J) int { " + stmts + " return 0; } main int { return 0; }"
}

// id is the class of a type; it fails, if the classes have it not.
func id(t *testing.T, c *lower.Code, src string) int {
	t.Helper()
	x, err := parse.Type(src)
	if err != nil {
		t.Fatal(src, err)
	}
	classes := c.Checked().Classes()
	ids, err := classes.Ids(x)
	if err != nil || ids[0] >= classes.Len() {
		t.Fatal(src, ids, err)
	}
	return ids[0]
}

// sites fails, unless those of the code are these: of each a type and a number.
func sites(t *testing.T, src string, c *lower.Code, want ...string) {
	t.Helper()
	var rows []lower.Site
	for _, w := range want {
		at := strings.LastIndex(w, " ")
		n, err := strconv.Atoi(w[at+1:])
		if err != nil {
			t.Fatal(w)
		}
		rows = append(rows, lower.Site{Iface: id(t, c, w[:at]), Method: n})
	}
	if got := c.Sites(); !slices.Equal(got, rows) {
		t.Errorf("%s: %v, not %v %v", strings.TrimPrefix(src, set), got, want, rows)
	}
}

// stmtSites fails, unless these statements of such a function have these sites.
func stmtSites(t *testing.T, stmts string, want ...string) {
	t.Helper()
	sites(t, stmts, made(t, function(stmts)), want...)
}

// slots fails, unless a method, a function or the main one, named by its owner and name with a dot between, has that many
// variables; of -1: unless there is none such.
func slots(t *testing.T, c *lower.Code, name string, want int) {
	t.Helper()
	owner, last, _ := strings.Cut(name, ".")
	n, ok := c.Slots(owner, last)
	if ok != (want >= 0) || n != max(want, 0) {
		t.Errorf("%q: %d %v, not %d", name, n, ok, want)
	}
}

// bounded: P13.3, fails, unless Len is within what expressions, statements and codes allow.
func bounded(t *testing.T, what string, c *lower.Code, codes int) {
	t.Helper()
	size := c.Checked().Size()
	if n := c.Len(); n < size || n > 64*(size+codes) {
		t.Errorf("%s: Len %d, of %d expressions and statements and %d codes", what, n, size, codes)
	}
}

// each does something with each expression, an expression ahead of its parts, and each statement of a list.
func each(l []api.Stmt, stmt func(api.Stmt), expr func(api.Expr)) {
	var exprs func(l []api.Expr)
	exprs = func(l []api.Expr) {
		for _, x := range l {
			expr(x)
			exprs(x.Parts)
		}
	}
	for _, s := range l {
		stmt(s)
		exprs(s.X)
		each(s.Body, stmt, expr)
		each(s.Else, stmt, expr)
	}
}

// codes are all that has a body, in their order.
func codes(p api.Program) []api.Code { return slices.Concat(p.Methods, p.Funcs, []api.Code{p.Main}) }
