package graph_test

import (
	"errors"
	"slices"
	"strconv"
	"strings"
	"testing"

	"coil/api"
	"coil/graph"
)

// TestRefusals: P4.1, each refusal, its place and its name.
func TestRefusals(t *testing.T) {
	for _, c := range []struct {
		src  string
		why  api.Errno
		at   int
		name string
	}{
		{"type A = {}; type A = int;", api.ErrTwice, 13, "A"},
		{"type A = {}; type B = {}; type B = {}; type A = int; type A = int;", api.ErrTwice, 26, "B"},

		{"method B.m() int {}", api.ErrOwner, 0, "m"},
		{"type A = int; method A.m() int {}", api.ErrOwner, 14, "m"},
		{"type A = *{}; method A.m() int {}", api.ErrOwner, 14, "m"},
		{"type A = interface {}; method A.m() int {}", api.ErrOwner, 23, "m"},
		{"type A = fn() {}; method A.m() int {}", api.ErrOwner, 18, "m"},
		{"type B = {}; type A = B; method A.m() int {}", api.ErrOwner, 25, "m"},
		{"type A = B; type B = A; method A.m() int {}", api.ErrOwner, 24, "m"},
		{"type A = {}; method A.m() int {} method A.n() int {} method B.k() int {} method A.m() int {}", api.ErrOwner, 53, "k"},

		{"type A = {m int;}; method A.m() int {}", api.ErrTwice, 19, "m"},
		{"type A = {a int; embed m {};}; method A.n() int {} method A.m() int {}", api.ErrTwice, 51, "m"},
		{"type A = {}; method A.m() int {} method A.m() int {}", api.ErrTwice, 33, "m"},
		{"type A = {}; method A.m(a int) int {} method A.n() int {} method A.m(b A) A {}", api.ErrTwice, 58, "m"},
		{"type A = {}; method A.m() int {} method A.m() int {} method B.k() int {}", api.ErrTwice, 33, "m"},

		{"type A = B;", api.ErrNoName, 0, "B"},
		{"type A = {}; type B = fn(A, *D, C) E;", api.ErrNoName, 13, "D"},
		{"type A = {}; type B = {x interface {m(A) fn(F) int;}; y G;}; type C = H;", api.ErrNoName, 13, "F"},
		{"type A = {}; method A.m(a X) Y {}", api.ErrNoName, 13, "X"},
		{"type A = {}; method A.m(a A, b *Z, c X) Y {}", api.ErrNoName, 13, "Z"},
		{"type A = {}; method A.m(a A) {y Y;} {} method A.n(a X) A {}", api.ErrNoName, 13, "Y"},
		{"type A = {}; method A.m(a A) int {} method A.n(a int) X {}", api.ErrNoName, 36, "X"},
		{"type A = {}; method A.m(a X) Y {} type B = Z;", api.ErrNoName, 34, "Z"},

		{"type A = A;", api.ErrContract, 0, "A"},
		{"type A = B; type B = A;", api.ErrContract, 0, "A"},
		{"type C = A; type A = A;", api.ErrContract, 0, "C"},
		{"type X = {}; type C = D; type A = B; type B = C; type D = C;", api.ErrContract, 13, "C"},
		{"type X = Y; type Y = *X; type A = X; type D = E; type E = F; type F = E;", api.ErrContract, 37, "D"},

		{"type A = {embed b B;}; type B = int;", api.ErrEmbed, 0, "b"},
		{"type A = {embed b B;}; type B = *B;", api.ErrEmbed, 0, "b"},
		{"type A = {embed b bool;};", api.ErrEmbed, 0, "b"},
		{"type A = {embed b text;};", api.ErrEmbed, 0, "b"},
		{"type A = {embed b fn() {};};", api.ErrEmbed, 0, "b"},
		{"type A = {embed b *int;};", api.ErrEmbed, 0, "b"},
		{"type A = {embed b **A;};", api.ErrEmbed, 0, "b"},
		{"type A = {embed b *interface {};};", api.ErrEmbed, 0, "b"},
		{"type A = {embed b *P;}; type P = *A;", api.ErrEmbed, 0, "b"},
		{"type A = {embed b *I;}; type I = J; type J = interface {};", api.ErrEmbed, 0, "b"},
		{"type A = {embed b N;}; type N = M; type M = int;", api.ErrEmbed, 0, "b"},
		{"type A = {}; type C = fn({embed z **A;}) int;", api.ErrEmbed, 13, "z"},
		{"type A = {}; method A.m() {embed q fn() int;} {}", api.ErrEmbed, 13, "q"},
		{"type A = {}; method A.m() int {} method A.n(a {embed z int;}) {embed q int;} {}", api.ErrEmbed, 33, "z"},
		{"type A = {}; method A.m() {embed q int;} {} type B = {}; type C = *{x {embed y int;};};", api.ErrEmbed, 57, "y"},

		// the first from the left: a field ahead of what stands in it, and that ahead of the next field
		{"type A = {embed a {embed b int;}; embed c int;};", api.ErrEmbed, 0, "b"},
		{"type A = {embed a fn({embed b int;}) int; embed c int;};", api.ErrEmbed, 0, "a"},
		{"type A = {x fn({embed b int;}) int; embed c int;};", api.ErrEmbed, 0, "b"},
		{"type A = {embed x *{embed y **{embed z int;};};};", api.ErrEmbed, 0, "y"},
		{"type A = fn({embed a {embed b *B;};}) interface {m() {embed i A;};}; type B = {};", api.ErrEmbed, 0, "i"},
		{"type A = {}; type C = interface {m({embed p A;}) {embed q C;}; n(*{embed r *C;}) {embed s int;};};", api.ErrEmbed, 13, "r"},
	} {
		refusesText(t, c.src, c.why, c.at, c.name)
	}
}

func integer() api.Type { return api.Type{Kind: api.TInt} }

func named(s string) api.Type { return api.Type{Kind: api.TName, Name: s} }

func pointer(t api.Type) api.Type { return api.Type{Kind: api.TPtr, Parts: []api.Type{t}} }

func def(at int, name string, t api.Type) api.Def {
	return api.Def{Place: api.Place{At: at}, Name: name, T: t}
}

func method(at int, owner, name string, result api.Type, params ...api.Param) api.Code {
	return api.Code{Place: api.Place{At: at}, Owner: owner, Name: name, Params: params, Result: result}
}

// record is a record of n fields of that type.
func record(n int, t api.Type) api.Type {
	x := api.Type{Kind: api.TRec}
	for i := range n {
		x.Names = append(x.Names, "f"+strconv.Itoa(i))
		x.Embeds = append(x.Embeds, false)
		x.Parts = append(x.Parts, t)
	}
	return x
}

func deep(n int) api.Type {
	t := integer()
	for range n - 1 {
		t = pointer(t)
	}
	return t
}

// TestWrongDefs: P4.1, ErrArg of the first definition whose name or type isn't right; ErrTwice ahead of it.
func TestWrongDefs(t *testing.T) {
	ok := def(3, "A", integer())
	for _, name := range []string{"", "a", "type", "int", "A b", "A;", "_A", "9", "É", strings.Repeat("A", api.MaxName+1)} {
		refuses(t, refusal{api.ErrArg, 7, name}, []api.Def{ok, def(7, name, integer()), def(9, "b", api.Type{})})
	}
	long := strings.Repeat("A", api.MaxName)
	if g, err := graph.New([]api.Def{ok, def(7, long, integer())}); err != nil || g.Len() != 2 {
		t.Error(err)
	}
	for i, wrong := range []api.Type{
		{}, {Kind: -1}, {Kind: 9}, {Kind: api.TName}, named("a"), {Kind: api.TInt, Name: "A"}, {Kind: api.TPtr}, {Kind: api.TFn},
		{Kind: api.TPtr, Parts: []api.Type{integer(), integer()}}, {Kind: api.TRec, Names: []string{"a"}, Parts: []api.Type{integer()}},
		{Kind: api.TRec, Names: []string{"a", "a"}, Embeds: []bool{false, false}, Parts: []api.Type{integer(), integer()}},
		{Kind: api.TIface, Names: []string{"a"}, Parts: []api.Type{integer()}},
		pointer(api.Type{}), deep(api.MaxNest + 1), record(2, api.Type{}),
	} {
		refuses(t, refusal{api.ErrArg, 7, "B"}, []api.Def{ok, def(7, "B", wrong), def(9, "C", wrong)})
		refuses(t, refusal{api.ErrTwice, 9, "B"}, []api.Def{ok, def(7, "B", wrong), def(9, "B", wrong)})
		if _, err := graph.New([]api.Def{ok}, method(4, "A", "m", wrong)); !errors.Is(err, api.ErrArg) {
			t.Error(i, err)
		}
	}
	refuses(t, refusal{api.ErrTwice, 7, ""}, []api.Def{def(5, "", integer()), def(7, "", integer())})
	if g, err := graph.New([]api.Def{def(7, "B", deep(api.MaxNest))}, method(0, "B", "m", integer())); g != nil || !errors.Is(err, api.ErrOwner) {
		t.Error(err)
	}
	if g, err := graph.New([]api.Def{def(7, "B", deep(api.MaxNest))}); err != nil || g.Len() != api.MaxNest {
		t.Error(err)
	}
}

// TestLongRight: P4.1, what is too long to be written as a text is right all the same.
func TestLongRight(t *testing.T) {
	long := api.Stmt{Kind: api.SDo, X: []api.Expr{{Kind: api.XText, S: strings.Repeat("a", api.MaxText)}}}
	m := method(4, "A", "m", deep(api.MaxNest), api.Param{Name: "a", T: deep(api.MaxNest)})
	m.Body = slices.Repeat([]api.Stmt{long}, 2)
	g, err := graph.New([]api.Def{def(0, "A", record(0, integer()))}, m)
	if err != nil || g.Len() != 2+2*api.MaxNest {
		t.Error(err)
	}
	refuses(t, refusal{api.ErrTooMany, 0, ""}, []api.Def{def(5, "A", record(api.MaxText, integer()))})
	g, err = graph.New([]api.Def{def(0, "A", record(api.MaxText, named("A")))})
	if err != nil || g.Len() != 1 || len(g.Parts(0)) != api.MaxText {
		t.Error(err)
	}
	if l, err := g.Add(record(api.MaxText, named("A"))); err != nil || !slices.Equal(l, []int{1}) {
		t.Error(l, err)
	}
}

// TestWrongMethods: P4.1, of one method ErrArg ahead of ErrOwner ahead of ErrTwice; of several the first one.
func TestWrongMethods(t *testing.T) {
	defs := []api.Def{def(1, "A", record(2, integer())), def(2, "N", integer())}
	ok := method(3, "A", "m", integer())
	wrongBody := ok
	wrongBody.Body = []api.Stmt{{}}
	for _, c := range []struct {
		m   api.Code
		why api.Errno
	}{
		{method(7, "", "", integer()), api.ErrArg},
		{method(7, "", "m", integer()), api.ErrArg},
		{method(7, "A", "", integer()), api.ErrArg},
		{method(7, "X", "", integer()), api.ErrArg},
		{method(7, "A", "M", integer()), api.ErrArg},
		{method(7, "A", "let", integer()), api.ErrArg},
		{method(7, "a", "k", integer()), api.ErrArg},
		{method(7, "A", "k", api.Type{}), api.ErrArg},
		{method(7, "A", "m", api.Type{}), api.ErrArg},
		{method(7, "A", "f1", api.Type{}), api.ErrArg},
		{method(7, "X", "m", deep(api.MaxNest+1)), api.ErrArg},
		{method(7, "N", "m", integer(), api.Param{Name: "a", T: integer()}, api.Param{Name: "a", T: integer()}), api.ErrArg},
		{method(7, "A", "k", integer(), api.Param{Name: "A", T: integer()}), api.ErrArg},
		{method(7, "A", "k", integer(), api.Param{Name: "a"}), api.ErrArg},
		{api.Code{Place: api.Place{At: 7}, Owner: "A", Name: "k", Result: integer(), Body: []api.Stmt{{}}}, api.ErrArg},
		{api.Code{Place: api.Place{At: 7}, Owner: "X", Name: "k", Result: integer(), Body: []api.Stmt{{}}}, api.ErrArg},
		{method(7, "X", "m", integer()), api.ErrOwner},
		{method(7, "N", "m", named("Y")), api.ErrOwner},
		{method(7, "A", "m", named("Y")), api.ErrTwice},
		{method(7, "A", "f0", integer()), api.ErrTwice},
		{method(7, "A", "f1", integer()), api.ErrTwice},
	} {
		want := refusal{c.why, 7, c.m.Name}
		refuses(t, want, defs, ok, c.m)
		refuses(t, want, defs, ok, c.m, wrongBody)
		refuses(t, want, defs, ok, c.m, method(9, "X", "m", integer()), ok)
		refuses(t, refusal{api.ErrTwice, 3, "m"}, defs, ok, ok, c.m)
	}
	refuses(t, refusal{api.ErrOwner, 3, "m"}, nil, ok)
}

// trouble is definitions and methods that are refused for one reason; rank is its place in the chapter's order.
type trouble struct {
	rank    int
	defs    []api.Def
	methods []api.Code
	want    refusal
}

// troubles are one for each reason; no name stands in two of them.
func troubles() []trouble {
	empty := record(0, integer())
	embeds := api.Type{Kind: api.TRec, Names: []string{"e"}, Embeds: []bool{true}, Parts: []api.Type{integer()}}
	return []trouble{
		{1, []api.Def{def(10, "A", empty), def(11, "A", empty)}, nil, refusal{api.ErrTwice, 11, "A"}},
		{2, []api.Def{def(20, "B", api.Type{})}, nil, refusal{api.ErrArg, 20, "B"}},
		{2, []api.Def{def(21, "b", empty)}, nil, refusal{api.ErrArg, 21, "b"}},
		{3, nil, []api.Code{method(30, "C", "", integer())}, refusal{api.ErrArg, 30, ""}},
		{3, nil, []api.Code{method(31, "D", "m", integer())}, refusal{api.ErrOwner, 31, "m"}},
		{3, []api.Def{def(32, "E", record(1, integer()))}, []api.Code{method(33, "E", "f0", integer())}, refusal{api.ErrTwice, 33, "f0"}},
		{4, []api.Def{def(40, "F", named("Fx"))}, nil, refusal{api.ErrNoName, 40, "Fx"}},
		{5, []api.Def{def(41, "G", empty)}, []api.Code{method(42, "G", "m", named("Gx"))}, refusal{api.ErrNoName, 42, "Gx"}},
		{6, []api.Def{def(50, "H", named("H"))}, nil, refusal{api.ErrContract, 50, "H"}},
		{7, []api.Def{def(60, "I", record(api.MaxTypes, integer()))}, nil, refusal{api.ErrTooMany, 0, ""}},
		{8, []api.Def{def(70, "J", embeds)}, nil, refusal{api.ErrEmbed, 70, "e"}},
		{9, []api.Def{def(71, "K", empty)}, []api.Code{method(72, "K", "m", embeds)}, refusal{api.ErrEmbed, 72, "e"}},
	}
}

// TestOrder: P4.1, the order of the refusals, each against each, whichever stands ahead of the other.
func TestOrder(t *testing.T) {
	for i, a := range troubles() {
		refuses(t, a.want, a.defs, a.methods...)
		for j, b := range troubles() {
			if i == j {
				continue
			}
			want := a.want // of one rank: the one that stands ahead
			if b.rank < a.rank {
				want = b.want
			}
			refuses(t, want, slices.Concat(a.defs, b.defs), slices.Concat(a.methods, b.methods)...)
			for k, c := range troubles() {
				if k != i && k != j && c.rank > min(a.rank, b.rank) {
					refuses(t, want, slices.Concat(c.defs, a.defs, b.defs), slices.Concat(c.methods, a.methods, b.methods)...)
				}
			}
		}
	}
}

// TestAround: P4.1 around MaxTypes nodes, in definitions and in signatures; names are none.
func TestAround(t *testing.T) {
	rec := func(n int) api.Def { return def(5, "A", record(n, integer())) }
	more := []api.Def{def(6, "B", named("A")), def(7, "C", named("B"))}
	takes := func(defs []api.Def, methods ...api.Code) {
		t.Helper()
		g, err := graph.New(defs, methods...)
		if err != nil || g.Len() != api.MaxTypes {
			t.Error(err)
		}
	}
	many := refusal{api.ErrTooMany, 0, ""}
	takes(append([]api.Def{rec(api.MaxTypes - 1)}, more...))
	refuses(t, many, append([]api.Def{rec(api.MaxTypes)}, more...))
	takes([]api.Def{rec(api.MaxTypes - 2), def(7, "B", integer())})
	refuses(t, many, []api.Def{rec(api.MaxTypes - 1), def(7, "B", integer())})

	m := method(8, "A", "m", integer(), api.Param{Name: "a", T: pointer(named("A"))}, api.Param{Name: "b", T: named("A")}) // 3 nodes
	takes([]api.Def{rec(api.MaxTypes - 4)}, m)
	refuses(t, many, []api.Def{rec(api.MaxTypes - 3)}, m)
	short := method(9, "A", "n", named("A")) // one node
	takes([]api.Def{rec(api.MaxTypes - 5)}, m, short)
	refuses(t, many, []api.Def{rec(api.MaxTypes - 4)}, m, short)

	var methods []api.Code
	for i := range api.MaxTypes {
		methods = append(methods, method(i, "A", "m"+strconv.Itoa(i), named("A")))
	}
	takes([]api.Def{rec(0)}, methods[1:]...)
	refuses(t, many, []api.Def{rec(0)}, methods...)
}

// TestManyNames: P4.1, names alone are no nodes: there may be many, and going on from one to the next one ends soon.
func TestManyNames(t *testing.T) {
	const n = 100000
	name := func(i int) string { return "A" + strconv.Itoa(i) }
	chain := func(last api.Type) []api.Def {
		var defs []api.Def
		for i := range n {
			defs = append(defs, def(i, name(i), named(name(i+1))))
		}
		return append(defs, def(n, name(n), last))
	}
	defs := chain(pointer(named(name(n / 2))))
	for range 2 {
		g, err := graph.New(defs)
		if err != nil {
			t.Fatal(err)
		}
		if root, ok := g.Root(name(7)); g.Len() != 1 || root != 0 || !ok || !slices.Equal(g.Parts(0), []int{0}) || len(g.Roots()) != n+1 {
			t.Error(g.Len())
		}
		slices.Reverse(defs)
	}
	for _, last := range []int{0, n / 2, n} {
		defs := chain(named(name(last)))
		refuses(t, refusal{api.ErrContract, 0, name(0)}, defs)
		slices.Reverse(defs)
		refuses(t, refusal{api.ErrContract, n, name(n)}, defs)
	}
	refuses(t, refusal{api.ErrNoName, n, "B"}, chain(named("B")))
}

// TestErrors: R8, a refusal wraps its number and no other, and says something.
func TestErrors(t *testing.T) {
	_, err := graph.New([]api.Def{def(12, "A", named("B"))})
	var number api.Errno
	if !errors.As(err, &number) || number != api.ErrNoName || errors.Is(err, api.ErrArg) || errors.Is(err, api.OK) {
		t.Error(err, number)
	}
	var r *graph.Refusal
	if !errors.As(err, &r) || r.Name != "B" || r.At != 12 {
		t.Error(err)
	}
	for _, part := range []string{"B", "12", api.ErrNoName.Error()} {
		if !strings.Contains(err.Error(), part) {
			t.Error(err)
		}
	}
}
