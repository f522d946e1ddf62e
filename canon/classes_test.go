package canon_test

import (
	"math"
	"slices"
	"testing"

	"coil/api"
	"coil/canon"
	"coil/graph"
	"coil/unfold"
)

// TestRuns: P6.1 and P6.3, the chapter's runs.
func TestRuns(t *testing.T) {
	c := made(t, runs)
	roots(t, c, map[string]int{"A": 0, "B": 0, "C": 3})
	shows(t, c, "0 record n next 1 2", "1 int", "2 * 0", "3 record n next 1 4", "4 * 5", "5 record n next 1 6", "6 * 7", "7 text")
	if n, ok := c.Of(99); n != 0 || ok {
		t.Error(n, ok)
	}
	if n, ok := c.Node(8); n != 0 || ok {
		t.Error(n, ok)
	}
	if n, ok := c.Root("D"); n != 0 || ok {
		t.Error(n, ok)
	}
}

// TestNothing: P6.1 to P6.3, a nil graph has no classes; one without nodes none to number.
func TestNothing(t *testing.T) {
	if c := canon.New(nil); c != nil {
		t.Error(c)
	}
	for _, g := range []*graph.Graph{drawn(t, ""), built(t), made(t, "").Graph(), withs(t, made(t, "")).Graph()} {
		c := canon.New(g)
		shows(t, c)
		if c.Graph() == nil || c.Graph().Len() != 0 {
			t.Error(c.Graph())
		}
		numbers(t, c, nil)
		numbers(t, c, types(t, "int"), 0)
		numbers(t, c, types(t, "*int", "int"), 0, 1)
		numbers(t, c, types(t, "int", "*int"), 0, 1)
		shows(t, c)
		shows(t, withs(t, c, types(t, "*int", "int")...), "0 * 1", "1 int")
	}
}

// TestNumbering: P6.1 and P6.3, the numbers of the classes to which definitions lead.
func TestNumbering(t *testing.T) {
	for _, c := range []struct {
		src  string
		want []string
	}{
		{"type A = int;", []string{"0 int"}},
		{"type A = int; type B = bool; type C = text;", []string{"0 int", "1 bool", "2 text"}},
		{"type C = int; type B = bool; type A = text;", []string{"0 text", "1 bool", "2 int"}},
		{"type A = *A;", []string{"0 * 0"}},
		{"type A = *A; type B = **B;", []string{"0 * 0"}},
		{"type A = *A; type B = **B; type C = *D; type D = ***C;", []string{"0 * 0"}},
		{"type A = interface {}; type B = {}; type C = {}; type D = interface {};", []string{"0 interface", "1 record"}},

		// in depth: what the first child leads to is ahead of the second child
		{"type A = {b *B; c *text;}; type B = {x bool; y int;};",
			[]string{"0 record b c 1 5", "1 * 2", "2 record x y 3 4", "3 bool", "4 int", "5 * 6", "6 text"}},
		{"type A = fn(**int, *bool) text;", []string{"0 fn 3 1 4 6", "1 * 2", "2 * 3", "3 int", "4 * 5", "5 bool", "6 text"}},
		{"type A = interface {b(*int) bool; a() *text;};",
			[]string{"0 interface a b 1 4", "1 fn 1 2", "2 * 3", "3 text", "4 fn 2 5 7", "5 * 6", "6 int", "7 bool"}},

		// children in the order of their names' bytes; Roots too
		{"type A = {b int; a bool; a_ text; aa *int; aA *bool; a9 *text;};",
			[]string{"0 record a a9 aA a_ aa b 1 2 4 3 5 6", "1 bool", "2 * 3", "3 text", "4 * 1", "5 * 6", "6 int"}},
		{"type B = int; type A_ = bool; type Aa = text; type AA = *int; type A9 = *bool; type A = *text;",
			[]string{"0 * 1", "1 text", "2 * 3", "3 bool", "4 * 5", "5 int"}},

		// one class by several ways: the number is that of the first meeting
		{"type A = fn(int, bool, int) bool;", []string{"0 fn 4 1 2 1 2", "1 int", "2 bool"}},
		{"type A = {a *A; b *B;}; type B = {b *A; a *B;};", []string{"0 record a b 1 1", "1 * 0"}},
		{"type B = {a *int; b A;}; type A = *int;", []string{"0 * 1", "1 int", "2 record a b 0 0"}},
		{"type A = {a *B; n int;}; type B = {a *C; n int;}; type C = {n int; a *A;};", []string{"0 record a n 1 2", "1 * 0", "2 int"}},

		// a definition that is another one's name
		{"type A = Z; type Z = *text; type B = int;", []string{"0 * 1", "1 text", "2 int"}},
		{"type A = B; type B = C; type C = {a A; b B; c C;};", []string{"0 record a b c 0 0 0"}},

		// embedded fields and others
		{"type A = {embed a {};}; type B = {a {};};", []string{"0 record +a 1", "1 record", "2 record a 1"}},
		{"type A = {embed a {}; b {};}; type B = {a {}; embed b {};};", []string{"0 record +a b 1 1", "1 record", "2 record a +b 1 1"}},

		// what differs far from the beginning
		{"type A = ****int; type B = ****int; type C = ****text;",
			[]string{"0 * 1", "1 * 2", "2 * 3", "3 * 4", "4 int", "5 * 6", "6 * 7", "7 * 8", "8 * 9", "9 text"}},
		{"type A = fn(int) int; type B = fn(int) bool; type C = fn(bool) int; type D = fn() int;",
			[]string{"0 fn 2 1 1", "1 int", "2 fn 2 1 3", "3 bool", "4 fn 2 3 1", "5 fn 1 1"}},
		{"type A = {x *A; y int;}; type B = {x *B; y bool;};", []string{"0 record x y 1 2", "1 * 0", "2 int", "3 record x y 4 5", "4 * 3", "5 bool"}},
	} {
		shows(t, made(t, c.src), c.want...)
	}
}

// TestMethods: P6.1, a record with an owner leads to its methods behind its children, by their names' order.
func TestMethods(t *testing.T) {
	shows(t, made(t, "type B = {}; method B.z(a text) bool {} type A = {b B;}; method B.a() int {}"),
		"0 record b 1", "1 record of B", "2 fn 1 3", "3 int", "4 fn 2 5 6", "5 text", "6 bool")

	// methods lead to classes that nothing else leads to, and these to others
	shows(t, made(t, "type A = {x int;}; type B = int; method A.m(a *fn() text) A {}"),
		"0 record of A x 1", "1 int", "2 fn 2 3 0", "3 * 4", "4 fn 1 5", "5 text")
	shows(t, made(t, "type A = {x *bool;}; method A.n() bool {} method A.m() **B {} type B = {}; method B.z() A {} type C = text;"),
		"0 record of A x 1", "1 * 2", "2 bool", "3 fn 1 4", "4 * 5", "5 * 6", "6 record of B", "7 fn 1 0", "8 fn 1 2", "9 text")

	// children ahead of methods, and the methods ahead of what comes next
	shows(t, made(t, "type A = {z B; y int;}; type B = {b text;}; method B.a() bool {} method A.c() B {}"),
		"0 record of A y z 1 2", "1 int", "2 record of B b 3", "3 text", "4 fn 1 5", "5 bool", "6 fn 1 2")

	// by names' bytes
	shows(t, made(t, "type A = {}; method A.b() int {} method A.a_() bool {} method A.aA() text {} method A.a9() *A {} method A.a() A {}"),
		"0 record of A", "1 fn 1 0", "2 fn 1 3", "3 * 0", "4 fn 1 5", "5 text", "6 fn 1 7", "7 bool", "8 fn 1 9", "9 int")

	// a method whose signature is there
	shows(t, made(t, "type A = fn(B) int; type B = {}; method B.m(a B) int {} method B.n(b B) int {}"),
		"0 fn 2 1 2", "1 record of B", "2 int")

	// a pointer to the owner, or a name of it, leads there as well
	shows(t, made(t, "type A = *Z; type Z = {}; method Z.m() text {} type B = Z;"), "0 * 1", "1 record of Z", "2 fn 1 3", "3 text")
}

// TestOwner: C2, a record and the same one with an owner are two classes; so with two owners.
func TestOwner(t *testing.T) {
	c := made(t, "type A = {x int;}; type B = {x int;}; type C = {x int;}; type D = {x int;}; type E = B; method B.m() int {} method C.m() int {}")
	shows(t, c, "0 record x 1", "1 int", "2 record of B x 1", "3 fn 1 1", "4 record of C x 1")
	roots(t, c, map[string]int{"A": 0, "B": 2, "C": 4, "D": 0, "E": 2})
	numbers(t, c, types(t, "{x int;}", "B", "C", "E", "fn() int", "{x C;}", "{x B;}"), 0, 2, 4, 2, 3, 5, 6)
	numbers(t, made(t, "type B = {}; method B.m() int {}"), types(t, "{}", "B", "{}"), 3, 0, 3)
}

// TestBehind: P6.1, nodes to which no definition leads have the numbers behind the others, as they rise; what is added
// behind New has none.
func TestBehind(t *testing.T) {
	g := drawn(t, "type A = {n int; next *A;}; method A.m() bool {}")
	add(t, g, "fn({b *text; a interface {};}, int) bool", "*A", "**A", "text")
	c := canon.New(g)
	want := []string{"0 record of A n next 1 2", "1 int", "2 * 0", "3 fn 1 4", "4 bool",
		"5 fn 3 6 1 4", "6 record a b 7 8", "7 interface", "8 * 9", "9 text", "10 * 2"}
	shows(t, c, want...)
	had := g.Len()
	add(t, g, "***A", "{x int;}")
	shows(t, c, want...)
	if n := c.Graph().Len(); n != had {
		t.Error(n)
	}
	for n := range g.Len() {
		if _, ok := c.Of(n); ok != (n < had) {
			t.Error(n, ok)
		}
	}
	shows(t, canon.New(g), append(slices.Clone(want), "11 * 10", "12 record x 1")...)

	// without definitions
	g = drawn(t, "")
	add(t, g, "bool", "*int", "bool", "int")
	shows(t, canon.New(g), "0 bool", "1 * 2", "2 int")
}

// TestNode: P6.1, the least node of each class; each node's class; Children of a class are those of each of its nodes.
func TestNode(t *testing.T) {
	g := drawn(t, "type C = {next *B; n int;}; type B = {n int; next *A;}; type A = {n int; next *A;};")
	nodes := add(t, g, "*B", "bool", "**bool", "*C", "bool")
	c := canon.New(g)
	shows(t, c, "0 record n next 1 2", "1 int", "2 * 0", "3 bool", "4 * 5", "5 * 3")
	want := []int{0, 2, 1, nodes[1], nodes[2], nodes[2] + 1}
	for class, least := range want {
		if n, ok := c.Node(class); n != least || !ok {
			t.Error(class, n, ok, least)
		}
	}
	for n := range g.Len() {
		class, ok := c.Of(n)
		if _, apart := unfold.Differ(g, n, want[class]); !ok || apart {
			t.Error(n, class, ok)
		}
		if c.Label(class) != unfold.Label(g, n) {
			t.Error(n, c.Label(class))
		}
		var children []int
		for _, child := range unfold.Children(g, n) {
			k, _ := c.Of(child)
			children = append(children, k)
		}
		if !slices.Equal(c.Children(class), children) {
			t.Error(n, c.Children(class), children)
		}
	}
}

// TestNone: P6.1, numbers of nodes and of classes that are none, names that are none.
func TestNone(t *testing.T) {
	for _, c := range []*canon.Classes{made(t, ""), made(t, "type A = int;"), made(t, runs), withs(t, made(t, runs), types(t, "bool")...)} {
		nodes, classes := c.Graph().Len(), c.Len()
		for _, n := range []int{-1, -2, -99, nodes, nodes + 1, nodes + 99, math.MaxInt, math.MinInt} {
			if k, ok := c.Of(n); k != 0 || ok {
				t.Error(n, k, ok)
			}
		}
		for _, n := range []int{-1, -2, -99, classes, classes + 1, classes + 99, math.MaxInt, math.MinInt} {
			if k, ok := c.Node(n); k != 0 || ok {
				t.Error(n, k, ok)
			}
			if s, l := c.Label(n), c.Children(n); s != "" || len(l) != 0 {
				t.Error(n, s, l)
			}
		}
		for n := range nodes {
			if k, ok := c.Of(n); !ok || k < 0 || k >= classes {
				t.Error(n, k, ok)
			}
		}
		for n := range classes {
			if k, ok := c.Node(n); !ok || k < 0 || k >= nodes || c.Label(n) == "" {
				t.Error(n, k, ok)
			}
		}
		for _, name := range []string{"", "D", "a", "n", "int", "AA", "A "} {
			if n, ok := c.Root(name); n != 0 || ok {
				t.Error(name, n, ok)
			}
		}
	}
}

// TestOrder: P6.5 (C3), another order of the definitions, of the methods, of fields, or what was added and asked, changes
// nothing of the numbers of the classes to which the definitions lead.
func TestOrder(t *testing.T) {
	pieces := []string{"type A = {n int; next *A;};", "type B = {m *Z; k fn(A) *B;};", "type C = B;", "type Z = {embed c C; a text;};",
		"method B.x(a *Z) bool {}", "method B.a() **Z {}", "method Z.q() C {}", "method B.b() interface {u() Z; t(A) A;} {}"}
	want := canonText(t, pieces)
	turned := slices.Clone(pieces)
	for range pieces {
		turned = append(turned[1:], turned[0])
		if s := canonText(t, turned); s != want {
			t.Errorf("%q, not %q", s, want)
		}
		back := slices.Clone(turned)
		slices.Reverse(back)
		if s := canonText(t, back); s != want {
			t.Errorf("%q, not %q", s, want)
		}
	}
	other := slices.Clone(pieces)
	other[0], other[1], other[3] = "type A = {next *A; n int;};", "type B = {k fn(A) *B; m *Z;};", "type Z = {a text; embed c C;};"
	other[7] = "method B.b() interface {t(A) A; u() Z;} {}"
	if s := canonText(t, other); s != want {
		t.Errorf("%q, not %q", s, want)
	}
}

// canonText is what Text says of these definitions and methods, asked also behind other questions and, as far as the
// definitions lead, with other nodes.
func canonText(t *testing.T, pieces []string) string {
	t.Helper()
	src := ""
	for _, p := range pieces {
		src += p + " "
	}
	g := drawn(t, src)
	c := canon.New(g)
	s := c.Text()
	if _, err := c.Ids(types(t, "bool", "***Z", "{x text;}")...); err != nil {
		t.Error(err)
	}
	if c.Text() != s {
		t.Errorf("%q, not %q", c.Text(), s)
	}
	add(t, g, "{y {};}", "*****Z", "*A", "fn(A) *B")
	for _, more := range []string{canon.New(g).Text(), withs(t, c, types(t, "{y {};}", "****B")...).Text()} {
		if len(more) <= len(s) || more[:len(s)] != s {
			t.Errorf("%q does not begin with %q", more, s)
		}
	}
	return s
}

// TestSame: P6.4 (C2), two nodes are of one class just if Differ finds nothing; there are as many classes as trees.
func TestSame(t *testing.T) {
	g := drawn(t, runs+"type P = *P; type Q = **Q; type S = *T; type T = *S; type L = {n int; next *M;}; type M = {next *L; n int;}; "+
		"type I = interface {m(I) J; n() I;}; type J = interface {n() J; m(I) I;}; type O = {n int; next *A;}; method O.m() int {} type K = O; "+
		"type R = {a R1; b R1;}; type R1 = {a R2; b R2;}; type R2 = {a R; b int;}; type V = {a V1; b V1;}; type V1 = {a V2; b V2;}; type V2 = {a V; b bool;};")
	add(t, g, "***P", "{next *A; n int;}", "{next *O; n int;}", "fn(I) J", "fn(J) I", "fn(I) I", "interface {m(J) J; n() I;}", "int", "bool")
	c := canon.New(g)
	different := 0
	for a := range g.Len() {
		first := true
		for b := range g.Len() {
			_, apart := unfold.Differ(g, a, b)
			x, _ := c.Of(a)
			y, _ := c.Of(b)
			if (x == y) == apart {
				t.Error(a, b, x, y, apart)
			}
			first = first && (apart || b >= a)
		}
		if first {
			different++
		}
	}
	if c.Len() != different {
		t.Error(c.Len(), different)
	}
}

// TestLabels: P6.1, labels of each kind.
func TestLabels(t *testing.T) {
	c := withs(t, made(t, "type A = {embed b B; a int;}; type B = {}; method B.m() int {}"), types(t, "*int", "bool", "text",
		"fn(int, A) B", "interface {z() int; a() int;}", "interface {}", "{}", "{of int;}")...)
	for i, want := range []string{"record a +b", "int", "record of B", "fn 1", "*", "bool", "text", "fn 3", "interface a z", "interface", "record", "record of"} {
		if s := c.Label(i); s != want {
			t.Errorf("%d: %q, not %q", i, s, want)
		}
	}
	var none api.Type
	if _, err := c.Ids(none); err == nil {
		t.Error("a type without a kind")
	}
}
