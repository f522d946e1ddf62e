package unfold_test

import (
	"slices"
	"strconv"
	"strings"
	"testing"

	"coil/api"
	"coil/unfold"
)

// TestDiffer: P5.4, the chapter's runs, labels that differ in each of their parts, and which path is the least.
func TestDiffer(t *testing.T) {
	d := made(t, runs+"type O = {a int;}; method O.m() int {} type Q = {a int;}; method Q.m() int {} "+
		"type X = {x Y; y Y;}; type Y = {x Z; y Z;}; type Z = {x int; y text;}; type U = {x V; y V;}; type V = {x W; y W;}; type W = {x int; y bool;};")
	for _, c := range []struct{ a, b, want string }{
		{"A", "C", "next 1, 0, next 1, 0"},
		{"B", "C", "next 1, 0, next 1, 0"},
		{"*A", "*C", "0, next 1, 0, next 1, 0"},

		// the labels themselves
		{"int", "bool", ""},
		{"int", "text", ""},
		{"int", "*int", ""},
		{"A", "O", ""},
		{"A", "*A", ""},
		{"fn() int", "fn(int) int", ""},
		{"{}", "interface {}", ""},
		{"{a int;}", "{b int;}", ""},
		{"{a int;}", "{a int; b int;}", ""},
		{"{a int;}", "{}", ""},
		{"{a {};}", "{embed a {};}", ""},
		{"{a {}; embed b {};}", "{embed a {}; b {};}", ""},
		{"{a int;}", "O", ""},
		{"O", "Q", ""},
		{"*O", "*Q", "0"},
		{"interface {a() int;}", "interface {b() int;}", ""},
		{"interface {a() int;}", "interface {a() int; b() int;}", ""},

		// further on
		{"*int", "*bool", "0"},
		{"fn(int, bool) int", "fn(int, bool) bool", "2"},
		{"fn(int, bool) int", "fn(int, text) bool", "1"},
		{"fn(int, **bool) int", "fn(int, **text) bool", "2"},
		{"fn(int, **bool) *int", "fn(int, **text) *bool", "2, 0"},
		{"fn(**int, *bool) *int", "fn(**text, *text) *bool", "1, 0"},
		{"interface {b() int; a() int;}", "interface {b() bool; a() text;}", "a 0, 0"},
		{"interface {b() int; a(int) int;}", "interface {b() int; a() int;}", "a 0"},
		{"interface {b() int; a() *int;}", "interface {b() bool; a() *text;}", "b 1, 0"},
		{"{b int; a int;}", "{a bool; b bool;}", "a 0"},
		{"{b int; a int;}", "{a int; b bool;}", "b 1"},
		{"{b int; a *int;}", "{a *bool; b bool;}", "b 1"},
		{"{embed b {c int;}; a int;}", "{a int; embed b {c text;};}", "b 1, c 0"},
		{"X", "U", "x 0, x 0, y 1"},
		{"{z X; y int;}", "{y int; z U;}", "z 1, x 0, x 0, y 1"},

		// a longer way ahead of a shorter one, to the same nodes
		{"fn(**X, *X) X", "fn(**U, *U) U", "2, x 0, x 0, y 1"},
		{"fn(*int, fn(bool) int) int", "fn(*bool, fn(int) bool) int", "0, 0"},
		{"fn(fn(int) int, *int) int", "fn(fn(int) bool, *bool) int", "0, 1"},
		{"fn(fn(int, bool) text, *int) int", "fn(fn(int, text) int, *bool) int", "0, 1"},
	} {
		d.differs(d.of(c.a), d.of(c.b), c.want)
	}
}

// TestAgree: P5.4 and P5.6, trees that are the same: another order of fields, another cycle, other definitions.
func TestAgree(t *testing.T) {
	d := made(t, runs+"type P = *P; type Q = **Q; type R = ***R; type S = *T; type T = *S; "+
		"type L = {n int; next *M;}; type M = {next *N; n int;}; type N = {next *L; n int;}; "+
		"type I = interface {m(I) J; n() I;}; type J = interface {n() J; m(I) I;}; type O = {}; method O.m() int {} type K = O;")
	for _, c := range [][]string{
		{"A", "B", "L", "M", "N", "{next *L; n int;}", "{n int; next *{n int; next *B;};}"},
		{"P", "Q", "R", "S", "T", "*P", "**Q", "*****R"},
		{"I", "J", "interface {m(J) J; n() J;}"},
		{"O", "K"},
		{"int", "int"},
		{"{}", "{}"},
		{"interface {}", "interface {}"},
		{"fn(P) Q", "fn(S) R"},
	} {
		var nodes []int
		for _, s := range c {
			nodes = append(nodes, d.of(s))
		}
		for _, a := range nodes {
			for _, b := range nodes {
				d.agrees(a, b)
				for depth := range api.MaxDepth + 2 {
					if x, y := unfold.Text(d.Graph, a, depth), unfold.Text(d.Graph, b, depth); x != y || x == "" {
						t.Errorf("%d and %d, %d: %q, %q", a, b, depth, x, y)
					}
				}
			}
		}
	}
}

// TestDifferLongest: P5.4 and P5.6, chains of pointers: each two nodes differ where the shorter one ends. With MaxTypes
// nodes the longest path is as long as that many nodes let it be: each step takes one away, and the two labels are left.
func TestDifferLongest(t *testing.T) {
	for _, n := range []int{2, 3, 5, 100, api.MaxTypes} {
		var defs []api.Def
		for i := range n - 1 {
			defs = append(defs, def("P"+strconv.Itoa(i), pointer(named("P"+strconv.Itoa(i+1)))))
		}
		d := built(t, append(defs, def("P"+strconv.Itoa(n-1), api.Type{Kind: api.TInt}))...)
		for a := 0; a < n; a += 1 + n/7 {
			for b := a + 1; b < n; b += 1 + n/5 {
				d.differs(a, b, strings.Join(slices.Repeat([]string{"0"}, n-1-b), ", "))
			}
		}
		if path, ok := unfold.Differ(d.Graph, 0, 1); !ok || len(path) != d.Len()-2 {
			t.Error(n, len(path), ok)
		}
	}
}

// ring are definitions that come back to the first one, each a record with a field a; those of these numbers have it
// embedded.
func ring(name string, n int, marked ...int) []api.Def {
	var defs []api.Def
	for i := range n {
		t := record([]string{"a"}, named(name+strconv.Itoa((i+1)%n)))
		t.Embeds[0] = slices.Contains(marked, i)
		defs = append(defs, def(name+strconv.Itoa(i), t))
	}
	return defs
}

// TestDifferRings: P5.4 and P5.6, rings of lengths without a common divisor: all pairs of their nodes would be met.
func TestDifferRings(t *testing.T) {
	m, n := 501, 523
	d := built(t, slices.Concat(ring("A", m), ring("B", n))...)
	for i := range 20 {
		d.agrees(7*i, m+11*i)
		d.agrees(i, 13*i)
	}
	d = built(t, slices.Concat(ring("A", m, m-1), ring("B", n, n-1))...)
	d.differs(0, m, strings.Join(slices.Repeat([]string{"a 0"}, m-1), ", "))
	d.differs(m-1, m+n-1, strings.Join(slices.Repeat([]string{"a 0"}, m), ", "))
	d.differs(m-1, m+m-1, "")
	d = built(t, slices.Concat(ring("A", 6, 1, 4), ring("B", 9, 1, 4, 7), ring("C", 9, 1, 4))...)
	d.agrees(0, 6)
	d.agrees(0, 3)
	d.differs(0, 15, strings.TrimSuffix(strings.Repeat("a 0, ", 7), ", "))
	d.differs(6, 15, strings.TrimSuffix(strings.Repeat("a 0, ", 7), ", "))
}

// ladders is a graph of MaxTypes nodes: two chains of records with two fields each that lead on to one node, so that the
// paths to the chains' ends, which are these types, are very many.
func ladders(t *testing.T, ends ...string) (d drawn, a, b int) {
	t.Helper()
	var defs []api.Def
	half := api.MaxTypes / 2
	for i, end := range ends {
		name := string(rune('A' + i))
		for k := range half - 1 {
			next := named(name + strconv.Itoa(k+1))
			defs = append(defs, def(name+strconv.Itoa(k), record([]string{"y", "x"}, next, next)))
		}
		kinds := map[string]int{"int": api.TInt, "bool": api.TBool}
		defs = append(defs, def(name+strconv.Itoa(half-1), api.Type{Kind: kinds[end]}))
	}
	d = built(t, defs...)
	if d.Len() != api.MaxTypes {
		t.Fatal(d.Len())
	}
	return d, 0, half
}

// TestDifferLadders: P5.4, many paths to one node.
func TestDifferLadders(t *testing.T) {
	d, a, b := ladders(t, "int", "int")
	d.agrees(a, b)
	d.agrees(b, a)
	d.differs(a, b+1, strings.Join(slices.Repeat([]string{"x 0"}, api.MaxTypes/2-2), ", "))
	d, a, b = ladders(t, "int", "bool")
	d.differs(a, b, strings.Join(slices.Repeat([]string{"x 0"}, api.MaxTypes/2-1), ", "))
	d.agrees(a, a)
}

// wide are that many names, sorted.
func wide(n int) []string {
	var names []string
	for i := range n {
		names = append(names, "f"+strconv.Itoa(100000+i))
	}
	return names
}

// TestDifferWide: P5.4, records with very many fields, each of which leads to one of them.
func TestDifferWide(t *testing.T) {
	const nodes, fields = 500, 400
	names := wide(fields)
	var defs []api.Def
	for _, group := range []string{"A", "B"} {
		for i := range nodes {
			var parts []api.Type
			for k := range fields {
				to := group + strconv.Itoa((i*7+k*k+1)%nodes)
				if group == "B" && i == nodes-1 && k == fields-1 {
					to = "I"
				}
				parts = append(parts, named(to))
			}
			defs = append(defs, def(group+strconv.Itoa(i), record(names, parts...)))
		}
	}
	d := built(t, append(defs, def("I", api.Type{Kind: api.TInt}))...)
	d.agrees(0, 1)
	d.agrees(5, nodes-1)
	path, ok := unfold.Differ(d.Graph, 0, nodes)
	if !ok || len(path) == 0 || path[len(path)-1] != (api.Step{Name: names[fields-1], N: fields - 1}) {
		t.Error(path, ok)
	}
}

// TestDifferSelf: P5.4, no node differs from itself.
func TestDifferSelf(t *testing.T) {
	d := made(t, runs)
	for n := range d.Len() {
		d.agrees(n, n)
	}
}
