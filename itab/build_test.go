package itab_test

import (
	"math"
	"slices"
	"testing"

	"coil/api"
	"coil/itab"
	"coil/member"
)

// TestNil: P12.1, of a nil relation there are no tables, whatever is asked.
func TestNil(t *testing.T) {
	r := made(t, runs)
	for _, p := range [][2]int{{}, pair(t, r, "B < J"), pair(t, r, "A < B"), {-1, 0}, {0, 9999}} {
		if got, why := itab.Build(nil, p[0], p[1]); !isZero(got) || why != api.ErrArg {
			t.Error(p, got, why)
		}
	}
}

// TestNoClass: P12.1, what is no class, on either side and on both.
func TestNoClass(t *testing.T) {
	for _, src := range []string{runs, ""} {
		r := made(t, src)
		n := r.Len()
		none := []int{-1, n, n + 1, -n - 1, 9999, math.MaxInt, math.MinInt, math.MaxInt32 + 1, 1 << 32}
		var pairs [][2]int
		for _, x := range none {
			for class := range n {
				pairs = append(pairs, [2]int{x, class}, [2]int{class, x})
			}
			for _, y := range none {
				pairs = append(pairs, [2]int{x, y})
			}
		}
		for _, p := range pairs {
			if got, why := itab.Build(r, p[0], p[1]); !isZero(got) || why != api.ErrArg {
				t.Error(p, got, why)
			}
		}
	}
}

// TestNoInterface: P12.1, what is no interface's has no tables, whether the class is below it or not.
func TestNoInterface(t *testing.T) {
	others := []string{"int", "bool", "text", "*A", "*I", "**A", "A", "B", "{}", "{x int;}", "{embed i I;}", "fn() int", "fn(I) J"}
	r := made(t, runs, append(others, "interface {}")...)
	for _, iface := range others {
		for _, class := range append(others, "I", "J", "interface {}") {
			refuses(t, r, api.ErrArg, class+" < "+iface)
		}
	}
}

// TestNotBelow: P12.1, classes that lack a method, have it with another signature, or something else of that name.
func TestNotBelow(t *testing.T) {
	src := runs + "type K = interface {m() bool;}; type L = interface {m(int) int;}; type M = interface {m() int; a() int; z() int;}; type X = interface {x() int;}; "
	types := []string{"int", "text", "**A", "*I", "fn() int", "{}", "{m int;}", "{m fn() int;}", "{embed m A;}", "{embed a A; embed b A;}", "{embed a A; embed i I;}", "{a A;}", "{embed a A; m int;}", "interface {}"}
	r := made(t, src, types...)
	for _, class := range types {
		refuses(t, r, api.ErrType, class+" < I", class+" < J", class+" < K")
	}
	refuses(t, r, api.ErrType, "A < J", "A < K", "A < L", "A < X", "B < M", "B < K", "I < J", "I < K", "J < M", "K < I", "X < I", "L < I", "I < M")
}

// TestPromoted: P12.1, methods that embedded fields promote, with their paths.
func TestPromoted(t *testing.T) {
	src := runs + "type C = {embed p *B; embed q {y int;};}; type D = {embed i I; embed c {embed c C;};}; type E = {embed d *D; embed j J;}; type R = {embed r *R; embed a A;}; "
	r := made(t, src, "*A", "*B", "*C", "*E", "{embed s *{embed e B;};}")
	builds(t, r, "A < I", "m: method of A")
	builds(t, r, "*A < I", "m: method of A")
	builds(t, r, "B < I", "m: method of A by b")
	builds(t, r, "*B < J", "a: method of B; m: method of A by b")
	builds(t, r, "C < J", "a: method of B by p; m: method of A by p b")
	builds(t, r, "*C < J", "a: method of B by p; m: method of A by p b")
	builds(t, r, "D < J", "a: method of B by c c p; m: iface by i")
	builds(t, r, "E < J", "a: iface by j; m: iface by j")
	builds(t, r, "*E < I", "m: iface by j")
	builds(t, r, "R < I", "m: method of A by a")
	builds(t, r, "{embed s *{embed e B;};} < J", "a: method of B by s e; m: method of A by s e b")
	builds(t, r, "J < J", "a: iface; m: iface")
	builds(t, r, "I < I", "m: iface")
}

// TestOrder: P12.1, rows come in the order of the names' bytes, however the interface and the record write them.
func TestOrder(t *testing.T) {
	names := []string{"z", "ab", "a_", "a", "aZ", "a9", "aa", "b", "zA"}
	sorted := []string{"a", "a9", "aZ", "a_", "aa", "ab", "b", "z", "zA"}
	iface := "interface {"
	src, embedded := "type A = {}; type B = {embed q A;}; ", ""
	for i, name := range names {
		iface += name + "() int; "
		src += "method " + []string{"A", "B"}[i%2] + "." + name + "() int {} "
		embedded += "; " + sorted[i] + ": method of " + []string{"A by q", "B"}[slices.Index(names, sorted[i])%2]
	}
	src += "method B.c() int {} method A.aA() int {} "
	r := made(t, src, iface+"}", "interface {zA() int; a9() int; a() int;}")
	builds(t, r, "B < "+iface+"}", embedded[2:])
	builds(t, r, "B < interface {a() int; a9() int; zA() int;}", "a: method of B; a9: method of B; zA: method of A by q")
	builds(t, r, iface+"} < interface {a() int; a9() int; zA() int;}", "a: iface; a9: iface; zA: iface")
}

// TestNodes: P12.1 and P12.4, a row has the class of the member's own signature, which may be another one than the
// interface's, but is below it.
func TestNodes(t *testing.T) {
	src := "type A = {}; method A.m(x T) A {} type T = interface {}; type I = interface {m(A) T;}; type B = {embed p *A;}; type J = interface {m(T) I;}; "
	r := made(t, src, "fn(T) A", "fn(A) T", "fn(T) I")
	for class, own := range map[string]string{"A": "fn(T) A", "B": "fn(T) A", "I": "fn(A) T", "J": "fn(T) I"} {
		got, why := itab.Build(r, at(t, r, class), at(t, r, "I"))
		if why != api.OK || len(got.Rows) != 1 || got.Rows[0].Node != at(t, r, own) || got.Rows[0].Name != "m" {
			t.Fatal(class, got, why)
		}
		if ok, why := r.Below(got.Rows[0].Node, at(t, r, "fn(A) T")); !ok || why != api.OK {
			t.Error(class, ok, why)
		}
		if n := member.Signature(r.Classes(), got.Rows[0]); n != got.Rows[0].Node {
			t.Error(class, n)
		}
	}
}

// TestNoMethods: P12.1, the table of an interface without methods has no rows, whatever the class.
func TestNoMethods(t *testing.T) {
	r := made(t, runs+"type T = interface {};", "*A", "bool", "text", "fn() int", "**J", "{embed i I;}")
	iface := at(t, r, "T")
	for class := range r.Len() {
		got, why := itab.Build(r, class, iface)
		if got.Class != class || got.Iface != iface || len(got.Rows) != 0 || why != api.OK {
			t.Error(class, got, why)
		}
	}
}

// TestSame: P12.1, tables are the same, unless they differ in a part.
func TestSame(t *testing.T) {
	table := func() itab.Table {
		return itab.Table{Class: 3, Iface: 5, Rows: []api.Member{
			{Path: []string{"a", "b"}, Kind: api.MMethod, Owner: "A", Name: "m", Node: 7},
			{Kind: api.MIface, Name: "n", Node: 8},
		}}
	}
	if !itab.Same(table(), table()) || !itab.Same(itab.Table{}, itab.Table{}) {
		t.Error("not the same")
	}
	for i, change := range []func(x *itab.Table){
		func(x *itab.Table) { x.Class = 4 },
		func(x *itab.Table) { x.Iface = 3 },
		func(x *itab.Table) { x.Class, x.Iface = x.Iface, x.Class },
		func(x *itab.Table) { x.Rows = nil },
		func(x *itab.Table) { x.Rows = x.Rows[:1] },
		func(x *itab.Table) { x.Rows = x.Rows[1:] },
		func(x *itab.Table) { x.Rows = append(x.Rows, api.Member{}) },
		func(x *itab.Table) { slices.Reverse(x.Rows) },
		func(x *itab.Table) { x.Rows[0].Path = nil },
		func(x *itab.Table) { x.Rows[0].Path = []string{"a"} },
		func(x *itab.Table) { x.Rows[0].Path = []string{"a", "b", ""} },
		func(x *itab.Table) { x.Rows[0].Path = []string{"b", "a"} },
		func(x *itab.Table) { x.Rows[0].Path = []string{"ab"} },
		func(x *itab.Table) { x.Rows[0].Kind = api.MField },
		func(x *itab.Table) { x.Rows[0].Owner = "B" },
		func(x *itab.Table) { x.Rows[0].Name = "n" },
		func(x *itab.Table) { x.Rows[0].Node = 8 },
		func(x *itab.Table) { x.Rows[1].Path = []string{""} },
		func(x *itab.Table) { x.Rows[1].Kind = api.MMethod },
		func(x *itab.Table) { x.Rows[1].Owner = "A" },
		func(x *itab.Table) { x.Rows[1].Name = "" },
		func(x *itab.Table) { x.Rows[1].Node = -8 },
	} {
		x := table()
		change(&x)
		if itab.Same(x, table()) || itab.Same(table(), x) || !itab.Same(x, x) {
			t.Error(i, x)
		}
	}
}

// TestSameEmpty: P12.1, nil and empty lists are the same.
func TestSameEmpty(t *testing.T) {
	a, b := itab.Table{Class: 1}, itab.Table{Class: 1, Rows: make([]api.Member, 0, 3)}
	if !itab.Same(a, b) || !itab.Same(b, a) {
		t.Error("Rows")
	}
	a.Rows = []api.Member{{Name: "m"}}
	b.Rows = []api.Member{{Name: "m", Path: append(make([]string, 0, 3), "spare")[:0]}}
	if !itab.Same(a, b) || !itab.Same(b, a) {
		t.Error("Path")
	}
}
