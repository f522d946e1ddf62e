package graph_test

import (
	"math"
	"slices"
	"testing"

	"coil/api"
	"coil/graph"
)

// TestNodes: P4.3 and P4.4, nodes and names: the chapter's runs and examples, and each kind.
func TestNodes(t *testing.T) {
	for _, c := range []struct{ src, nodes, names string }{
		{"", "", ""},
		{"type A = {n int; next *A;};", "rec n=1 next=2; int; * 0", "A=0"},
		{"type A = B; type B = *A;", "* 0", "A=0 B=0"},
		{"type A = {}; type B = {};", "rec; rec", "A=0 B=1"},
		{"type A = {embed b *A;};", "rec +b=1; * 0", "A=0"},
		{"type A = int; type B = bool; type C = text;", "int; bool; text", "A=0 B=1 C=2"},
		{"type A = *A;", "* 0", "A=0"},
		{"type A = **A;", "* 1; * 0", "A=0"},
		{"type A = fn() A;", "fn 0", "A=0"},
		{"type A = fn(A, int, A) *A;", "fn 0 1 0 2; int; * 0", "A=0"},
		{"type A = interface {};", "iface", "A=0"},
		{"type A = interface {b() A; a(A, int) bool;};", "iface b=1 a=2; fn 0; fn 0 3 4; int; bool", "A=0"},
		{"type A = {b B; a *B;}; type B = {z A; y A;};", "rec b=2 a=1; * 2; rec z=0 y=0", "A=0 B=2"},

		// a node ahead of its parts, these from the left to the right
		{"type A = {a {b *int; c text;}; d fn(*bool, int) {e int;};};",
			"rec a=1 d=5; rec b=2 c=4; * 3; int; text; fn 6 8 9; * 7; bool; int; rec e=10; int", "A=0"},
		{"type B = **int; type A = *text;", "* 1; * 2; int; * 4; text", "A=3 B=0"},

		// names of names, ahead of what they come to and behind it
		{"type A = B; type B = C; type C = {x A; y B; z C;};", "rec x=0 y=0 z=0", "A=0 B=0 C=0"},
		{"type D = int; type C = {x A; y B; z C; d D;}; type B = C; type A = B;", "int; rec x=1 y=1 z=1 d=0", "A=1 B=1 C=1 D=0"},
		{"type A = B; type X = *A; type B = C; type Y = fn(A) B; type C = D; type D = text; type E = A;",
			"* 2; fn 2 2; text", "A=2 B=2 C=2 D=2 E=2 X=0 Y=1"},

		// methods: signatures behind all definitions, in their order
		{"type A = {}; method A.m() A {}", "rec of A; fn 0", "A=0 A.m=1"},
		{"type A = {}; method A.m(a int) A {} method A.b(c A, d *A) bool {}", "rec of A; fn 2 0; int; fn 0 4 5; * 0; bool", "A=0 A.b=3 A.m=1"},
		{"method B.z() fn() B {} method A.a() B {} type A = {}; type C = B; type B = {}; method A.b(c C) int {}",
			"rec of A; rec of B; fn 3; fn 1; fn 1; fn 1 6; int", "A=0 A.a=4 A.b=5 B=1 B.z=2 C=1"},
		{"type A = {b {a int;};}; method A.a() int {}", "rec of A b=1; rec a=2; int; fn 4; int", "A=0 A.a=3"},
		{"type A = {}; type B = {m int;}; method A.m() int {}", "rec of A; rec m=2; int; fn 4; int", "A=0 A.m=3 B=1"},
		{"type A = {}; type B = {}; method A.m() int {} method B.m() int {}", "rec of A; rec of B; fn 3; int; fn 5; int", "A=0 A.m=2 B=1 B.m=4"},
		{"type A = {x *B;}; type B = {}; method A.x1() A {} method B.x() B {}", "rec of A x=1; * 2; rec of B; fn 0; fn 2", "A=0 A.x1=3 B=2 B.x=4"},
		{"type I = interface {m() I;}; type A = {}; method A.m() I {}", "iface m=1; fn 0; rec of A; fn 0", "A=2 A.m=3 I=0"},

		// what may be embedded
		{"type A = {}; type B = {embed a A; embed b *A; embed c {}; embed d *{}; embed e interface {};};",
			"rec; rec +a=0 +b=2 +c=3 +d=4 +e=6; * 0; rec; * 5; rec; iface", "A=0 B=1"},
		{"type A = {embed a B; embed b C; embed c D; d int;}; type B = E; type E = {}; type C = F; type F = *B; type D = G; type G = interface {};",
			"rec +a=2 +b=3 +c=4 d=1; int; rec; * 2; iface", "A=0 B=2 C=3 D=4 E=2 F=3 G=4"},
		{"type A = {embed a A;};", "rec +a=0", "A=0"},
		{"type A = fn({embed a {embed b *B;};}) interface {m() {embed i B;};}; type B = {};",
			"fn 1 4; rec +a=2; rec +b=3; * 7; iface m=5; fn 6; rec +i=7; rec", "A=0 B=7"},
	} {
		shows(t, made(t, c.src), c.nodes, c.names)
	}
}

// TestNewOfNothing: P4.1, nil and empty lists.
func TestNewOfNothing(t *testing.T) {
	for _, defs := range [][]api.Def{nil, {}} {
		for _, methods := range [][]api.Code{nil, {}} {
			g, err := graph.New(defs, methods...)
			if err != nil || g.Len() != 0 || len(g.Roots()) != 0 || len(g.Methods("")) != 0 {
				t.Error(g, err)
			}
			refusesAdd(t, g, api.ErrNoName, "A", typ(t, "A"))
			if l := add(t, g, "int"); l[0] != 0 {
				t.Error(l)
			}
		}
	}
	a, b := api.Type{Kind: api.TRec}, api.Type{Kind: api.TRec, Names: []string{}, Embeds: []bool{}, Parts: []api.Type{}}
	for _, x := range []api.Type{a, b} {
		g, err := graph.New([]api.Def{{Name: "A", T: x}}, api.Code{Owner: "A", Name: "m", Params: []api.Param{}, Result: x, Body: []api.Stmt{}})
		if err != nil {
			t.Fatal(err)
		}
		shows(t, g, "rec of A; fn 2; rec", "A=0 A.m=1")
	}
}

// TestNoNode: P4.3 and P4.4, numbers that are no nodes, names that are none.
func TestNoNode(t *testing.T) {
	g := made(t, "type A = {a int;}; type B = A; type C = {}; method A.m(a C) int {}")
	for _, n := range []int{-1, -2, g.Len(), g.Len() + 1, 99, math.MaxInt, math.MinInt} {
		if g.Kind(n) != 0 || len(g.Parts(n)) != 0 || len(g.Names(n)) != 0 || len(g.Embeds(n)) != 0 || g.Owner(n) != "" {
			t.Error(n, showNode(g, n))
		}
	}
	for _, name := range []string{"", "D", "a", "m", "AA", "a b"} {
		if n, ok := g.Root(name); n != 0 || ok {
			t.Error(name, n, ok)
		}
		if l := g.Methods(name); len(l) != 0 {
			t.Error(name, l)
		}
		if n, ok := g.Method(name, "m"); n != 0 || ok {
			t.Error(name, n, ok)
		}
	}
	for _, owner := range []string{"B", "C"} { // a name of the owner is no owner
		if l := g.Methods(owner); len(l) != 0 {
			t.Error(owner, l)
		}
		if n, ok := g.Method(owner, "m"); n != 0 || ok {
			t.Error(owner, n, ok)
		}
	}
	for _, name := range []string{"", "a", "M", "A"} {
		if n, ok := g.Method("A", name); n != 0 || ok {
			t.Error(name, n, ok)
		}
	}
}

// TestOwner: P4.3, only a definition's own right side, and only if a method is declared for it, has an owner.
func TestOwner(t *testing.T) {
	g := made(t, "type A = {x {}; y *{};}; type B = A; type C = {x {}; y *{};}; type D = *{}; method A.m() {} {}")
	for n := range g.Len() {
		want := ""
		if root, _ := g.Root("A"); n == root {
			want = "A"
		}
		if got := g.Owner(n); got != want {
			t.Error(n, got, want)
		}
	}
	for _, n := range add(t, g, "{x {}; y *{};}", "{}") { // the same tree, but no definition
		if g.Owner(n) != "" {
			t.Error(n, g.Owner(n))
		}
	}
	if l := add(t, g, "B"); g.Owner(l[0]) != "A" {
		t.Error(l)
	}
}

// TestSorted: P4.4, Roots and Methods in the order of their bytes, whatever the order of the text.
func TestSorted(t *testing.T) {
	g := made(t, "type B = {}; type A_ = int; type A9 = int; type Aa = int; type AA = int; type A = int; type Z = int; "+
		"method B.b() int {} method B.a_() int {} method B.a9() int {} method B.aa() int {} method B.aA() int {} method B.a() int {} method B.z() int {}")
	if l := g.Roots(); !slices.Equal(l, []string{"A", "A9", "AA", "A_", "Aa", "B", "Z"}) {
		t.Error(l)
	}
	if l := g.Methods("B"); !slices.Equal(l, []string{"a", "a9", "aA", "a_", "aa", "b", "z"}) {
		t.Error(l)
	}
}

// TestAdd: P4.2, types are laid out behind the nodes; names make none.
func TestAdd(t *testing.T) {
	g := made(t, "type A = {n int; next *A;};")
	if l := add(t, g, "A", "*A"); !slices.Equal(l, []int{0, 3}) || g.Len() != 4 {
		t.Error(l, g.Len())
	}
	if l := add(t, g); len(l) != 0 || g.Len() != 4 {
		t.Error(l)
	}
	if l := add(t, g, "A", "A"); !slices.Equal(l, []int{0, 0}) || g.Len() != 4 {
		t.Error(l)
	}
	if l := add(t, g, "int", "int", "A", "{embed a A; b fn(int) A;}", "text"); !slices.Equal(l, []int{4, 5, 0, 6, 9}) {
		t.Error(l)
	}
	shows(t, g, "rec n=1 next=2; int; * 0; * 0; int; int; rec +a=0 b=7; fn 8 0; int; text", "A=0")

	g = made(t, "type A = B; type B = C; type C = *D; type D = interface {m(A) B;}; type E = {}; method E.m(a A) D {}")
	if l := add(t, g, "B", "*B", "A", "D", "E"); !slices.Equal(l, []int{0, 5, 0, 1, 3}) {
		t.Error(l)
	}
	shows(t, g, "* 1; iface m=2; fn 0 0; rec of E; fn 0 1; * 0", "A=0 B=0 C=0 D=1 E=3 E.m=4")
}

// TestAddRefused: P4.2, each refusal, and in which order; nothing is added.
func TestAddRefused(t *testing.T) {
	g := made(t, "type A = {}; type I = interface {}; type N = int; type P = *A; type Q = *I; type B = A; method A.m(a {b B;}) text {}")
	wrong := api.Type{Kind: api.TRec, Names: []string{"a"}}
	refusesAdd(t, g, api.ErrArg, "", wrong)
	refusesAdd(t, g, api.ErrArg, "", api.Type{})
	refusesAdd(t, g, api.ErrArg, "", types(t, "int", "{embed a int; b X;}")[0], wrong)
	refusesAdd(t, g, api.ErrArg, "", api.Type{Kind: api.TName})
	refusesAdd(t, g, api.ErrArg, "", api.Type{Kind: api.TName, Name: "a"})
	refusesAdd(t, g, api.ErrNoName, "X", types(t, "int", "fn({embed a int;}, B) X", "Y")...)
	refusesAdd(t, g, api.ErrNoName, "Z", types(t, "A", "fn(Z, Y) X", "Y")...)
	refusesAdd(t, g, api.ErrNoName, "Y", types(t, "{embed z N;}", "Y", "X")...)
	refusesAdd(t, g, api.ErrEmbed, "a", typ(t, "*{embed a *I;}"))
	refusesAdd(t, g, api.ErrEmbed, "a", typ(t, "{embed a N;}"))
	refusesAdd(t, g, api.ErrEmbed, "q", typ(t, "{embed p P; embed q Q;}"))
	refusesAdd(t, g, api.ErrEmbed, "b", types(t, "int", "{embed a A;}", "{x *bool; embed b int; embed c int;}", "{embed d int;}")...)
	refusesAdd(t, g, api.ErrEmbed, "c", typ(t, "fn({embed a {embed b *A; embed c **A;}; embed d int;}) {embed e int;}"))
	refusesAdd(t, g, api.ErrEmbed, "a", typ(t, "{embed a fn({embed b int;}) int;}"))
	if l := add(t, g, "{embed a A; embed b P; embed c I; embed d B; embed e *B; embed f {embed a {};};}"); l[0] != g.Len()-4 {
		t.Error(l)
	}
}

// TestAddAround: P4.2 around MaxTypes nodes, one by one and at once; names count nothing.
func TestAddAround(t *testing.T) {
	g := made(t, "type A = {}; type B = A; method A.m() B {}") // two nodes
	many := slices.Repeat(types(t, "A", "int"), api.MaxTypes-2)
	over := append(slices.Clone(many), typ(t, "bool"))
	refusesAdd(t, g, api.ErrTooMany, "", over...)
	refusesAdd(t, g, api.ErrTooMany, "", append(slices.Clone(over), typ(t, "{embed a int;}"))...)
	refusesAdd(t, g, api.ErrTooMany, "", append(types(t, "{embed a int;}"), over...)...)
	refusesAdd(t, g, api.ErrNoName, "X", append(slices.Clone(over), typ(t, "X"))...)
	refusesAdd(t, g, api.ErrArg, "", append(slices.Clone(over), typ(t, "X"), api.Type{})...)
	c := g.Copy()
	if l, err := g.Add(many...); err != nil || len(l) != len(many) || g.Len() != api.MaxTypes || l[0] != 0 || l[len(l)-1] != api.MaxTypes-1 {
		t.Fatal(err, g.Len())
	}
	refusesAdd(t, g, api.ErrTooMany, "", typ(t, "int"))
	refusesAdd(t, g, api.ErrTooMany, "", typ(t, "*A"))
	refusesAdd(t, g, api.ErrTooMany, "", typ(t, "{embed a int;}"))
	refusesAdd(t, g, api.ErrNoName, "X", typ(t, "*X"))
	if l := add(t, g, "A", "B"); !slices.Equal(l, []int{0, 0}) || g.Len() != api.MaxTypes {
		t.Error(l)
	}
	for range api.MaxTypes - 2 { // one by one
		add(t, c, "int")
	}
	refusesAdd(t, c, api.ErrTooMany, "", typ(t, "int"))
	whole := made(t, "")
	two := types(t, "{embed a {};}")
	refusesAdd(t, whole, api.ErrTooMany, "", slices.Repeat(two, api.MaxTypes/2+1)...)
	if l, err := whole.Add(slices.Repeat(two, api.MaxTypes/2)...); err != nil || l[1] != 2 || whole.Len() != api.MaxTypes {
		t.Error(err, whole.Len())
	}
}

// TestCopy: P4.4, a copy is like it; what is added to one changes nothing of the other.
func TestCopy(t *testing.T) {
	g := made(t, "type A = {a B;}; type B = A; method A.m(x int) B {}")
	for range 5 { // so that there is spare room, or none
		c := g.Copy()
		shows(t, c, show(g), showNames(g))
		nodes, names := show(g), showNames(g)
		at := add(t, g, "int")[0]
		shows(t, c, nodes, names)
		if l := add(t, c, "{b A;}", "bool"); l[0] != at || l[1] != at+1 {
			t.Error(l, at)
		}
		shows(t, g, nodes+"; int", names)
		shows(t, c, nodes+"; rec b=0; bool", names)
		refusesAdd(t, c, api.ErrEmbed, "a", typ(t, "{embed a int;}"))
		shows(t, g, nodes+"; int", names)
		d := c.Copy().Copy()
		add(t, d, "text")
		add(t, c, "A", "*A")
		shows(t, d, nodes+"; rec b=0; bool; text", names)
		shows(t, c, nodes+"; rec b=0; bool; * 0", names)
		shows(t, g, nodes+"; int", names)
	}
}
