package member_test

import (
	"slices"
	"strings"
	"testing"

	"coil/member"
)

// TestLists: P7.2, Methods and All.
func TestLists(t *testing.T) {
	c := made(t, runs, "*A", "**A", "int", "*I", "*E", "{}", "interface {}", "fn(A) A")
	m := "method A.m fn 1(int)"
	for _, x := range []struct{ of, methods, all string }{
		{"A", m, m + "; field x int"},
		{"*A", m, m + "; field x int"},
		{"B", m + " by a", "field a record of A x(int); " + m + " by a; field x int by a; field y int"},
		{"C", m + " by a", "field a *(record of A x); " + m + " by a; field x int by a"},
		{"D", "", "field b record +a y(record of A x, int); field c record +a(*); field y int by b"},
		{"E", m + " by a", "field a record of A x(int); field b record +a y(record of A x, int); " + m + " by a; field x int by a; field y int by b"},
		{"*E", m + " by a", "field a record of A x(int); field b record +a y(record of A x, int); " + m + " by a; field x int by a; field y int by b"},
		{"R", m + " by a", "field a record of A x(int); " + m + " by a; field r *(record +a +r); field x int by a"},
		{"I", "iface m fn 1(int)", "iface m fn 1(int)"},
		{"F", "iface m fn 1(int) by i", "field i interface m(fn 1); iface m fn 1(int) by i; field x int"},
		{"int", "", ""}, {"**A", "", ""}, {"*I", "", ""}, {"{}", "", ""}, {"interface {}", "", ""}, {"fn(A) A", "", ""},
	} {
		lists(t, c, x.of, x.methods, x.all)
	}
}

// TestSorted: P7.2, by the names' bytes, whatever the depth, the kind and the order of the text.
func TestSorted(t *testing.T) {
	c := made(t, "type A = {b int; a_ int; embed a9 B; aA int;}; method A.z() int {} method A.aa() int {} type B = {embed a I; ab int;}; method B.a0() int {} type I = interface {y() int; ac() int; aB() int;};")
	var all, methods []string
	for _, m := range member.All(c, at(t, c, "A")) {
		all = append(all, m.Name)
	}
	for _, m := range member.Methods(c, at(t, c, "A")) {
		methods = append(methods, m.Name)
	}
	if !slices.Equal(all, strings.Fields("a a0 a9 aA aB a_ aa ab ac b y z")) || !slices.Equal(methods, strings.Fields("a0 aB aa ac y z")) {
		t.Error(all, methods)
	}
	lists(t, c, "I", "iface aB fn 1(int); iface ac fn 1(int); iface y fn 1(int)", "iface aB fn 1(int); iface ac fn 1(int); iface y fn 1(int)")
}

// TestHidden: P7.2, a field hides a method from Methods, and so does what is ambiguous, from All too.
func TestHidden(t *testing.T) {
	c := made(t, "type A = {}; method A.m() int {} method A.n() int {} type B = {embed a A; m int;}; type C = {embed b B; n int;}; type D = {embed a A; embed b B;}; type E = {embed d D; embed i I;}; type I = interface {n() bool; b() int;};")
	lists(t, c, "B", "method A.n fn 1(int) by a", "field a record of A; field m int; method A.n fn 1(int) by a")
	lists(t, c, "C", "", "field a record of A by b; field b record +a m(record of A, int); field m int by b; field n int")
	lists(t, c, "D", "method A.n fn 1(int) by a", "field a record of A; field b record +a m(record of A, int); method A.n fn 1(int) by a")
	lists(t, c, "E", "iface n fn 1(bool) by i", "field a record of A by d; field d record +a +b(record of A, record +a m); field i interface b n(fn 1, fn 1); iface n fn 1(bool) by i")

	// ambiguous at depth 1: the only one at depth 2 stays hidden, be it a field or a method
	c = made(t, "type A = {x int;}; method A.m() int {} type B = {x int; m int;}; type C = {x int;}; method C.m() int {} type D = {embed c C; y int;}; type E = {embed a A; embed b B; embed d D;};")
	lists(t, c, "E", "", "field a record of A x(int); field b record m x(int, int); field c record of C x(int) by d; field d record +c y(record of C x, int); field y int by d")
}

// TestDepths: P7.3, counts up to the first depth at which a member of that name stands; more than two are two.
func TestDepths(t *testing.T) {
	for _, x := range []struct {
		src  string
		asks map[string][]int
	}{
		{runs, map[string][]int{"D m": {0, 0, 2}, "R z": nil, "D y": {0, 1}, "A x": {1}, "A m": {1}, "I m": {1}, "D a": {0, 2}, "D b": {1}, "D x": {0, 0, 2}, "E m": {0, 1}, "E x": {0, 1},
			"F m": {0, 1}, "F x": {1}, "A ": nil, "A z": nil, "I z": nil, "R r": {1}, "R x": {0, 1}}},

		// two, three, four of a name, by records and by paths
		{"type A = {x int;}; type B = {x int; embed a A;}; type C = {embed a A; embed b B;}; type D = {embed a A; embed b A; embed c A;}; type E = {embed d D;}; " +
			"type F = {embed c C; embed d D;}; type G = {embed f F; embed e E; embed g C;}; type H = {embed a A; embed b A; embed c *A; embed d B;};", map[string][]int{
			"C x": {0, 2}, "C a": {1}, "D x": {0, 2}, "E x": {0, 0, 2}, "E c": {0, 1}, "F x": {0, 0, 2}, "F a": {0, 2}, "F c": {1}, "G x": {0, 0, 2}, "G c": {0, 1}, "G d": {0, 2}, "H x": {0, 2}, "H a": {1}}},

		// what is counted twice at a depth counts twice behind it
		{"type Z = {n int;}; type Y = {embed z Z;}; type X = {embed y Y;}; type W = {embed y Y;}; type V = {embed x X; embed w W;}; type U = {embed x X; embed y Y;};", map[string][]int{
			"V n": {0, 0, 0, 2}, "V z": {0, 0, 2}, "V y": {0, 2}, "V x": {1}, "U n": {0, 0, 1}, "U z": {0, 1}, "U y": {1}, "U q": nil}},

		// no base
		{"type P = *P; type I = interface {m() int;}; type Q = *I; type N = int; type F = fn() I; type A = {x int;}; type B = **A; type C = *A;", map[string][]int{
			"P x": nil, "Q m": nil, "N x": nil, "F m": nil, "B x": nil, "C x": {1}, "C y": nil}},

		// embeddings that come back
		{"type A = {embed b *B; embed c *B;}; type B = {embed d *C; embed a *A;}; type C = {embed e *A; embed f *B; x int; embed g *D;}; type D = {y int;};", map[string][]int{
			"A x": {0, 0, 2}, "A y": {0, 0, 0, 2}, "A d": {0, 2}, "A z": nil, "B x": {0, 1}, "B y": {0, 0, 1}, "C d": {0, 1}, "C b": {0, 1}, "D y": {1}, "D x": nil}},
	} {
		c := made(t, x.src)
		for ask, want := range x.asks {
			src, name, _ := strings.Cut(ask, " ")
			if l := member.Depths(c, at(t, c, src), name); !slices.Equal(l, want) {
				t.Errorf("%s: %v, not %v", ask, l, want)
			}
		}
	}
}
