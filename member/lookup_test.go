package member_test

import (
	"errors"
	"math"
	"testing"

	"coil/api"
	"coil/graph"
	"coil/member"
	"coil/parse"
)

// ask is a question to Lookup, `TYPE : NAME`, and its answer.
type ask struct{ of, want string }

// TestRuns: P7.1, the chapter's runs.
func TestRuns(t *testing.T) {
	c := made(t, runs, "*A", "**A")
	for _, a := range []ask{
		{"B : x", "field x int by a"}, {"B : m", "method A.m fn 1(int) by a"}, {"B : y", "field y int"},
		{"D : m", "ambiguous"}, {"D : y", "field y int by b"}, {"D : a", "ambiguous"},
		{"E : m", "method A.m fn 1(int) by a"}, {"E : a", "field a record of A x(int)"},
		{"R : m", "method A.m fn 1(int) by a"}, {"R : z", "none"}, {"R : r", "field r *(record +a +r)"},
		{"F : m", "iface m fn 1(int) by i"}, {"I : m", "iface m fn 1(int)"}, {"*A : m", "method A.m fn 1(int)"}, {"**A : m", "none"},
	} {
		finds(t, c, a.of, a.want)
	}
}

// TestLookup: P7.1, sets of definitions, with types beside them, and what is found of their members.
func TestLookup(t *testing.T) {
	for _, x := range []struct {
		src   string
		types []string
		asks  []ask
	}{
		// no base: nothing at any depth
		{"type A = {x int;}; method A.m() int {} type I = interface {m() int;};",
			[]string{"int", "bool", "text", "fn(A) A", "**A", "*I", "**I", "*int", "*fn() A", "*A", "***A"},
			[]ask{{"int : x", "none"}, {"bool : x", "none"}, {"text : x", "none"}, {"fn(A) A : x", "none"}, {"fn(A) A : m", "none"}, {"**A : x", "none"},
				{"***A : x", "none"}, {"*I : m", "none"}, {"**I : m", "none"}, {"*int : x", "none"}, {"*fn() A : m", "none"}, {"*A : x", "field x int"}, {"*A : m", "method A.m fn 1(int)"}}},
		{"type P = *P; type Q = **Q;", nil, []ask{{"P : x", "none"}, {"P : ", "none"}, {"Q : x", "none"}}},

		// at depth 0, and names that are none
		{"type A = {b bool; a *A; of int;}; method A.m(x A) bool {} method A.n() *A {} type Z = {}; type I = interface {};", nil,
			[]ask{{"A : a", "field a *(record of A a b of)"}, {"A : b", "field b bool"}, {"A : of", "field of int"}, {"A : m", "method A.m fn 2(record of A a b of, bool)"},
				{"A : n", "method A.n fn 1(*)"}, {"A : ", "none"}, {"A : A", "none"}, {"A : +a", "none"}, {"A : a ", "none"}, {"A : M", "none"}, {"A : aa", "none"}, {"A : record", "none"},
				{"Z : a", "none"}, {"Z : ", "none"}, {"I : a", "none"}}},

		// only the owner has the methods: not another record with the same fields, but each name of it
		{"type A = {x int;}; method A.m() int {} type B = {x int;}; type C = A; type D = {embed b B;}; type E = {embed c C;};", []string{"{x int;}", "{embed q A;}", "*{embed q A;}"},
			[]ask{{"B : m", "none"}, {"C : m", "method A.m fn 1(int)"}, {"{x int;} : m", "none"}, {"{x int;} : x", "field x int"}, {"D : m", "none"}, {"D : x", "field x int by b"},
				{"E : m", "method A.m fn 1(int) by c"}, {"{embed q A;} : m", "method A.m fn 1(int) by q"}, {"*{embed q A;} : m", "method A.m fn 1(int) by q"}}},

		// what may be embedded: records, pointers to them, interfaces, by names and written out; and what isn't embedded gives nothing
		{"type A = {x int;}; method A.m() int {} type P = *A; type I = interface {i(int) text;}; type V = {embed a A; z int;}; type W = {embed a *A;}; type X = {embed p P;}; " +
			"type Y = {embed i I;}; type Z = {embed r {u int;}; embed s *{v text;}; embed j interface {k() bool;};}; type N = {a A; p *A; i I; f fn() A;};", nil,
			[]ask{{"V : x", "field x int by a"}, {"V : m", "method A.m fn 1(int) by a"}, {"V : z", "field z int"}, {"W : x", "field x int by a"}, {"W : m", "method A.m fn 1(int) by a"},
				{"W : a", "field a *(record of A x)"}, {"X : x", "field x int by p"}, {"X : m", "method A.m fn 1(int) by p"}, {"Y : i", "field i interface i(fn 2)"},
				{"Z : u", "field u int by r"}, {"Z : v", "field v text by s"}, {"Z : k", "iface k fn 1(bool) by j"}, {"Z : j", "field j interface k(fn 1)"},
				{"N : x", "none"}, {"N : m", "none"}, {"N : i", "field i interface i(fn 2)"}, {"N : a", "field a record of A x(int)"}}},
		{"type I = interface {i(int) text;}; type Y = {embed e I;}; type Z = {embed y *Y;};", []string{"*Y"},
			[]ask{{"Y : i", "iface i fn 2(int, text) by e"}, {"*Y : i", "iface i fn 2(int, text) by e"}, {"Z : i", "iface i fn 2(int, text) by y e"}, {"Z : e", "field e interface i(fn 2) by y"}, {"I : e", "none"}}},

		// the parts of an interface's methods, and of fields, are no members
		{"type I = interface {m({x int;}) {y int;};}; type A = {embed i I; f {z int;};};", nil,
			[]ask{{"A : x", "none"}, {"A : y", "none"}, {"A : z", "none"}, {"A : m", "iface m fn 2(record x, record y) by i"}}},
	} {
		c := made(t, x.src, x.types...)
		for _, a := range x.asks {
			finds(t, c, a.of, a.want)
		}
	}
}

// TestDepth: P7.1 (C4), of several depths the least one holds; several at it are ambiguous.
func TestDepth(t *testing.T) {
	for _, x := range []struct {
		src  string
		asks []ask
	}{
		// what stands at a lesser depth hides what stands deeper: fields, methods, interfaces' methods, each by each
		{"type A = {x int; y int;}; method A.m() int {} method A.n() int {} type B = {embed a A; x bool; m text;}; method B.n() bool {} method B.y() bool {}", []ask{
			{"B : x", "field x bool"}, {"B : m", "field m text"}, {"B : n", "method B.n fn 1(bool)"}, {"B : y", "method B.y fn 1(bool)"}}},
		{"type I = interface {m() int; n() int; a() int;}; type B = {embed i I; m text;}; method B.n() bool {} type C = {embed b B; a text;}; method C.i() int {}", []ask{
			{"B : m", "field m text"}, {"B : n", "method B.n fn 1(bool)"}, {"B : a", "iface a fn 1(int) by i"}, {"C : a", "field a text"}, {"C : i", "method C.i fn 1(int)"}, {"C : m", "field m text by b"}}},
		{"type I = interface {x() int; m() int;}; type A = {x int;}; method A.m() int {} type B = {embed a A;}; type C = {embed i I; embed b B;}; type D = {embed b B; embed i I;};", []ask{
			{"C : x", "iface x fn 1(int) by i"}, {"C : m", "iface m fn 1(int) by i"}, {"D : x", "iface x fn 1(int) by i"}, {"D : m", "iface m fn 1(int) by i"}}},

		// an embedded field asked by its own name, which hides, and which is hidden
		{"type A = {a int; x int;}; type B = {embed a A;}; type C = {embed b B; a text;}; type D = {embed c C; embed x A;};", []ask{
			{"B : a", "field a record a x(int, int)"}, {"B : x", "field x int by a"}, {"C : a", "field a text"}, {"C : x", "field x int by b a"}, {"C : b", "field b record +a(record a x)"},
			{"D : x", "field x record a x(int, int)"}, {"D : a", "ambiguous"}}},

		// a field and a method, an interface's method and each of them, at one depth
		{"type A = {m int;}; type B = {}; method B.m() int {} type I = interface {m() int;}; type J = interface {m() int;}; type X = {embed a A; embed b B;}; " +
			"type Y = {embed a A; embed i I;}; type Z = {embed b B; embed i I;}; type U = {embed i I; embed j J;}; type V = {embed m B; embed i I;};", []ask{
			{"X : m", "ambiguous"}, {"Y : m", "ambiguous"}, {"Z : m", "ambiguous"}, {"U : m", "ambiguous"}, {"V : m", "field m record of B"}}},

		// ambiguous at the least depth: what stands deeper is hidden, also where it is the only one there
		{"type A = {x int;}; type B = {x int;}; type C = {x bool; y int;}; type D = {embed c C;}; type E = {embed a A; embed b B; embed d D;}; type F = {embed e E;}; type G = {embed e E; x text;};", []ask{
			{"E : x", "ambiguous"}, {"E : y", "field y int by d c"}, {"F : x", "ambiguous"}, {"F : y", "field y int by e d c"}, {"G : x", "field x text"}}},

		// one record by two paths at one depth: pointers and records alike, and what it has itself
		{"type A = {x int;}; method A.m() int {} type B = {embed a A; embed b A;}; type C = {embed a A; embed b *A;}; type D = {embed a *A; embed b *A;}; type E = {embed a A; embed b {x int;};};", []ask{
			{"B : x", "ambiguous"}, {"B : m", "ambiguous"}, {"B : a", "field a record of A x(int)"}, {"B : b", "field b record of A x(int)"}, {"C : x", "ambiguous"}, {"C : m", "ambiguous"}, {"D : m", "ambiguous"},
			{"E : x", "ambiguous"}, {"E : m", "method A.m fn 1(int) by a"}}},
		{"type Z = {n int; embed q Q;}; type Q = {s int;}; type Y = {embed z Z;}; type X = {embed y Y;}; type W = {embed y Y;}; type V = {embed x X; embed w W;}; type U = {embed x X; embed y Y;}; type T = {embed v V; embed z Z;};", []ask{
			{"V : n", "ambiguous"}, {"V : y", "ambiguous"}, {"V : z", "ambiguous"}, {"V : q", "ambiguous"}, {"V : s", "ambiguous"}, {"V : x", "field x record +y(record +z)"},
			{"U : n", "field n int by y z"}, {"U : s", "field s int by y z q"}, {"U : z", "field z record n +q(int, record s) by y"}, {"U : y", "field y record +z(record n +q)"},
			{"T : n", "field n int by z"}, {"T : s", "field s int by z q"}, {"T : y", "ambiguous"}, {"T : w", "field w record +y(record +z) by v"}}},
		{"type I = interface {m() int;}; type A = {embed i I; embed j I;}; type B = {embed a A;}; type C = {embed i I; embed a A;};", []ask{
			{"A : m", "ambiguous"}, {"B : m", "ambiguous"}, {"B : j", "field j interface m(fn 1) by a"}, {"C : m", "iface m fn 1(int) by i"}}},

		// two records with the same fields are two, whatever they are called, and so is one class by two names
		{"type A = {x int;}; type B = {x int;}; type C = {embed a A; embed b B;}; type D = {embed a A; embed b C;};", []ask{{"C : x", "ambiguous"}, {"D : x", "field x int by a"}}},
	} {
		c := made(t, x.src)
		for _, a := range x.asks {
			finds(t, c, a.of, a.want)
		}
	}
}

// TestBack: P7.1 and P7.5 (C4), embeddings that come back to themselves.
func TestBack(t *testing.T) {
	for _, x := range []struct {
		src  string
		asks []ask
	}{
		{"type A = {embed a A;}; type B = {embed a *B; x int;}; type C = {embed a *C; embed b *C;};", []ask{
			{"A : a", "field a record +a(record +a)"}, {"A : x", "none"}, {"B : x", "field x int"}, {"B : a", "field a *(record +a x)"}, {"B : z", "none"},
			{"C : a", "field a *(record +a +b)"}, {"C : b", "field b *(record +a +b)"}, {"C : z", "none"}}},
		{"type A = {embed b *B; x int;}; type B = {embed a *A; y int;}; method A.m() int {} method B.n() int {}", []ask{
			{"A : a", "field a *(record of A +b x) by b"}, {"A : x", "field x int"}, {"A : y", "field y int by b"}, {"A : n", "method B.n fn 1(int) by b"}, {"A : m", "method A.m fn 1(int)"},
			{"B : m", "method A.m fn 1(int) by a"}, {"B : b", "field b *(record of B +a y) by a"}, {"B : z", "none"}}},

		// met again at a greater depth, by several paths: what it has stays what stands at the lesser one
		{"type A = {embed b *B; embed c *C; embed d *D;}; type B = {embed p *D;}; type C = {embed q *D; embed r *A;}; type D = {x int; embed s *E; embed t *A;}; type E = {y int; embed u *D; embed v *A; embed w *B;};", []ask{
			{"A : x", "field x int by d"}, {"A : s", "field s *(record +u +v +w y) by d"}, {"A : y", "field y int by d s"}, {"A : w", "field w *(record +p) by d s"}, {"A : p", "field p *(record +s +t x) by b"},
			{"B : x", "field x int by p"}, {"B : y", "field y int by p s"}, {"B : q", "field q *(record +s +t x) by p t c"}, {"B : c", "field c *(record +q +r) by p t"},
			{"E : x", "field x int by u"}, {"E : q", "field q *(record +s +t x) by v c"}, {"E : p", "field p *(record +s +t x) by w"}, {"E : z", "none"}}},

		// two paths of one length come back to one record
		{"type A = {embed b *B; embed c *C;}; type B = {embed d *D;}; type C = {embed e *D;}; type D = {x int; embed a *A; embed f *F;}; type F = {y int; embed b *B;};", []ask{
			{"A : x", "ambiguous"}, {"A : y", "ambiguous"}, {"A : f", "ambiguous"}, {"A : b", "field b *(record +d)"}, {"A : d", "field d *(record +a +f x) by b"}, {"A : a", "ambiguous"},
			{"B : y", "field y int by d f"}, {"B : e", "field e *(record +a +f x) by d a c"}, {"B : b", "ambiguous"}, {"D : b", "ambiguous"}, {"D : d", "ambiguous"}, {"D : c", "field c *(record +e) by a"}, {"F : c", "field c *(record +e) by b d a"}}},

		// one tree by several definitions is one class: it is come to again by any of them
		{"type A = {embed n *B; x int;}; type B = {embed n *C; x int;}; type C = {embed n *A; x int;}; type D = {embed a *A; embed b *C;};", []ask{
			{"A : x", "field x int"}, {"A : z", "none"}, {"D : x", "ambiguous"}, {"D : a", "field a *(record +n x)"}}},
	} {
		c := made(t, x.src)
		for _, a := range x.asks {
			finds(t, c, a.of, a.want)
		}
	}
}

// TestArg: P7.1 to P7.3, nil classes, and numbers that are no classes.
func TestArg(t *testing.T) {
	for _, class := range []int{-1, 0, 1, 99, math.MaxInt, math.MinInt} {
		for _, name := range []string{"", "x", "m"} {
			if got := find(t, nil, class, name); got != "arg" {
				t.Error(class, name, got)
			}
			if l := member.Depths(nil, class, name); len(l) != 0 {
				t.Error(class, name, l)
			}
		}
		if a, b := member.Methods(nil, class), member.All(nil, class); len(a) != 0 || len(b) != 0 {
			t.Error(class, a, b)
		}
	}
	for _, src := range []string{"", "type A = {x int;}; method A.m() int {}", runs} {
		c := made(t, src)
		for _, class := range []int{-1, -2, -99, c.Len(), c.Len() + 1, c.Len() + 99, math.MaxInt, math.MinInt} {
			for _, name := range []string{"", "x", "m"} {
				if got := find(t, c, class, name); got != "arg" {
					t.Error(class, name, got)
				}
				if l := member.Depths(c, class, name); len(l) != 0 {
					t.Error(class, name, l)
				}
			}
			if a, b := member.Methods(c, class), member.All(c, class); len(a) != 0 || len(b) != 0 {
				t.Error(class, a, b)
			}
		}
		for class := range c.Len() {
			if got := find(t, c, class, "zz"); got != "none" {
				t.Error(class, got)
			}
		}
	}
	c := made(t, "type A = {x int;};")
	more, ids, err := c.With(typ(t, "*A"))
	if err != nil || find(t, c, ids[0], "x") != "arg" || find(t, more, ids[0], "x") != "field x int" { // a number that With alone gives
		t.Error(ids, err)
	}
}

// TestOther: fields of other types than those of the chapter can't be embedded, so none comes to Lookup.
func TestOther(t *testing.T) {
	for _, src := range []string{"int", "bool", "text", "*int", "**A", "*interface {}", "fn() A", "*fn() A", "P"} {
		defs, methods, err := parse.Defs("type A = {x int;}; type P = *P; type B = {embed b " + src + ";};")
		if err != nil {
			t.Fatal(src, err)
		}
		if _, err := graph.New(defs, methods...); !errors.Is(err, api.ErrEmbed) {
			t.Error(src, err)
		}
	}
}
