package unfold_test

import (
	"math"
	"slices"
	"strconv"
	"strings"
	"testing"

	"coil/api"
	"coil/graph"
	"coil/unfold"
)

// TestLabels: P5.1, of each kind, and the children's labels in their order.
func TestLabels(t *testing.T) {
	const src = "type A = {n int; next *A;}; type B = {next *A; n int;}; " +
		"type D = {embed b A; a fn(int, D) bool;}; method D.m() int {} " +
		"type E = interface {z() int; a(int) E;}; " +
		"type F = {}; method F.a() int {} type G = F; type H = {m int; embed k F;}; method H.a() int {}"
	d := made(t, src)
	for _, c := range []struct{ src, label, children string }{
		{"int", "int", ""},
		{"bool", "bool", ""},
		{"text", "text", ""},
		{"*int", "*", "int"},
		{"**int", "*", "*"},
		{"*A", "*", "record n next"},
		{"fn() int", "fn 1", "int"},
		{"fn(text) int", "fn 2", "text; int"},
		{"fn(text, *int, bool, text) int", "fn 5", "text; *; bool; text; int"},
		{"interface {}", "interface", ""},
		{"interface {m() int;}", "interface m", "fn 1"},
		{"interface {m(int) int; b() int; k(int, int) int;}", "interface b k m", "fn 1; fn 3; fn 2"},
		{"{}", "record", ""},
		{"{n int;}", "record n", "int"},
		{"{embed b {};}", "record +b", "record"},
		{"{n int; embed b *A; a text; embed c interface {};}", "record a +b +c n", "text; *; interface; int"},
		{"{z int; embed y {}; x text;}", "record x +y z", "text; record; int"},
		{"A", "record n next", "int; *"},
		{"B", "record n next", "int; *"},
		{"D", "record of D a +b", "fn 3; record n next"},
		{"E", "interface a z", "fn 2; fn 1"},
		{"F", "record of F", ""},
		{"G", "record of F", ""},
		{"H", "record of H +k m", "record of F; int"},
		// an owner is the definition's alone
		{"{m int; embed k F;}", "record +k m", "record of F; int"},
		{"*F", "*", "record of F"},
		// names in the order of their bytes, not of their letters
		{"{b int; a_ bool; a9 text; aa *int; aA {}; a fn() int; ab interface {}; a10 fn(int) int;}",
			"record a a10 a9 aA a_ aa ab b", "fn 1; fn 2; text; record; bool; *; interface; int"},
		{"interface {b() int; a_(int) int; a9(int, int) int; aA(int, int, int) int; a(int, int, int, int) int;}",
			"interface a a9 aA a_ b", "fn 5; fn 3; fn 4; fn 2; fn 1"},
		{"{of int;}", "record of", "int"},
	} {
		n := d.of(c.src)
		if s := unfold.Label(d.Graph, n); s != c.label {
			t.Errorf("%s: %q, not %q", c.src, s, c.label)
		}
		var l []string
		for _, child := range unfold.Children(d.Graph, n) {
			l = append(l, unfold.Label(d.Graph, child))
		}
		if s := strings.Join(l, "; "); s != c.children {
			t.Errorf("%s: children %q, not %q", c.src, s, c.children)
		}
	}
}

// TestChildren: P5.1, which nodes; the same one several times, the node itself.
func TestChildren(t *testing.T) {
	d := made(t, "type A = {z B; y A; x B;}; type B = fn(B, A, B) B; type C = interface {n() A; m() B;}; type P = *P;")
	for name, want := range map[string][]int{"A": {1, 0, 1}, "B": {1, 0, 1, 1}, "C": {4, 3}, "P": {5}} {
		if l := unfold.Children(d.Graph, d.of(name)); !slices.Equal(l, want) {
			t.Error(name, l, want)
		}
	}
}

// TestWideLabel: P5.1, a label may be longer than a text; a function may have any number of parts.
func TestWideLabel(t *testing.T) {
	const many = 30000
	var names []string
	for i := range many {
		names = append(names, "f"+strconv.Itoa(many*10-i))
	}
	fn := api.Type{Kind: api.TFn, Parts: slices.Repeat([]api.Type{named("A")}, many)}
	d := built(t, def("A", record(names, slices.Repeat([]api.Type{named("A")}, many)...)), def("F", fn))
	slices.Reverse(names)
	if s := unfold.Label(d.Graph, 0); s != "record "+strings.Join(names, " ") || len(s) <= api.MaxText {
		t.Error(len(s))
	}
	if s := unfold.Label(d.Graph, 1); s != "fn 30000" {
		t.Error(s)
	}
	for n := range 2 {
		if l := unfold.Children(d.Graph, n); !slices.Equal(l, make([]int, many)) {
			t.Error(n, len(l))
		}
	}
}

// none are numbers that are no nodes of a graph.
func none(g *graph.Graph) []int {
	n := 0
	if g != nil {
		n = g.Len()
	}
	return []int{-1, -2, -1000, n, n + 1, n + 1000, math.MaxInt, math.MinInt}
}

// TestNoNode: P5.1 to P5.5, a node that is none, and graphs that have none.
func TestNoNode(t *testing.T) {
	d := made(t, "type A = {n int; next *A;};")
	empty := made(t, "")
	for _, g := range []*graph.Graph{d.Graph, empty.Graph, {}, nil} {
		for _, n := range none(g) {
			for _, depth := range []int{0, 1, 5, -3, api.MaxDepth, 99, math.MaxInt, math.MinInt} {
				if s := unfold.Text(g, n, depth); s != "" {
					t.Error(n, depth, s)
				}
			}
			if s, l := unfold.Label(g, n), unfold.Children(g, n); s != "" || len(l) != 0 {
				t.Error(n, s, l)
			}
			for _, path := range [][]api.Step{nil, {}, {{}}, {{Name: "n"}}} {
				if m, ok := unfold.Follow(g, n, path...); m != 0 || ok {
					t.Error(n, m, ok)
				}
			}
			for _, m := range append(none(g), 0, 1) {
				for _, x := range [][2]int{{n, m}, {m, n}} {
					if path, ok := unfold.Differ(g, x[0], x[1]); len(path) != 0 || ok {
						t.Error(x, path, ok)
					}
				}
			}
			if l := unfold.Reach(g, n, n); len(l) != 0 {
				t.Error(n, l)
			}
		}
		if l := unfold.Reach(g, none(g)...); len(l) != 0 {
			t.Error(l)
		}
	}
}
