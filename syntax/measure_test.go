package syntax_test

import (
	"slices"
	"testing"

	"coil/api"
	"coil/syntax"
)

// TestNodes: P2.2, all type expressions but names, of any trees.
func TestNodes(t *testing.T) {
	two := api.Type{Kind: api.TIface, Names: []string{"a", "b"}, Parts: []api.Type{function(integer, named("B")), function(named("A"))}}
	for want, types := range map[int][]api.Type{
		0: nil,
		1: {named("A"), integer, named("A")},
		2: {integer, integer},
		3: {{}, {Kind: -1}, {Kind: 9}},
		4: {two},
		5: {two, {Kind: api.TBool}},
		6: {{Kind: api.TName, Parts: []api.Type{two, {Kind: api.TText, Parts: []api.Type{{}, named("A")}}}}},
		7: {pointer(pointer(field("a", pointer(named("A"))))), pointer(named("A")), function(integer)},
	} {
		if got := syntax.Nodes(types...); got != want {
			t.Error(types, got, want)
		}
	}
}

// TestNames: P2.2, each name once, in the order from left to right, of any trees.
func TestNames(t *testing.T) {
	check := func(want []string, types ...api.Type) {
		t.Helper()
		if got := syntax.Names(types...); !slices.Equal(got, want) {
			t.Error(types, got, want)
		}
	}
	check(nil)
	check(nil, integer, pointer(integer))
	check([]string{"B"}, named("B"), named("B"))
	check([]string{"B", "A", "C"}, function(named("B"), pointer(named("A")), named("B"), named("C")), named("A"))
	check([]string{"C", "B", "A"}, api.Type{Kind: api.TIface, Parts: []api.Type{function(named("C"), named("B")), function(named("C"), named("A"))}})
	check([]string{"C", "A", "B"}, field("x", field("y", named("C"))), field("z", named("A")), named("B"))
	check([]string{"b", "", "let"}, named("b"), named(""), named("let"), named(""))
	check([]string{"A", "B"}, api.Type{Kind: api.TName, Name: "A", Parts: []api.Type{named("B"), named("A")}})
	check(nil, api.Type{Kind: api.TInt, Name: "A"}, api.Type{Name: "A", Names: []string{"B"}})
	check([]string{"A"}, api.Type{Kind: 99, Parts: []api.Type{named("A")}})
}

// TestDepth: P2.2, the greatest depth, of any trees.
func TestDepth(t *testing.T) {
	for want, types := range map[int][]api.Type{
		0: nil,
		1: {integer, named("A"), {}},
		2: {integer, pointer(integer), named("A")},
		3: {function(integer, pointer(integer), integer), pointer(integer)},
		4: {{Kind: api.TName, Parts: []api.Type{{Parts: []api.Type{{Kind: -1, Parts: []api.Type{{}}}}}}}},
	} {
		if got := syntax.Depth(types...); got != want {
			t.Error(types, got, want)
		}
	}
	if got := syntax.Depth(nested(1000, integer, pointer)); got != 1001 {
		t.Error(got)
	}
}

// TestSame: P2.2, the same tree part by part, of any trees.
func TestSame(t *testing.T) {
	full := func() api.Type {
		return api.Type{Kind: 7, Name: "A", Names: []string{"a", "b"}, Embeds: []bool{true, false}, Parts: []api.Type{integer, pointer(named("B"))}}
	}
	if !syntax.Same(full(), full()) || !syntax.Same(pointer(full()), pointer(full())) {
		t.Error("the same trees")
	}
	for i, change := range []func(x *api.Type){
		func(x *api.Type) { x.Kind = 8 }, func(x *api.Type) { x.Name = "B" }, func(x *api.Type) { x.Name = "" },
		func(x *api.Type) { x.Names[1] = "c" }, func(x *api.Type) { x.Names = x.Names[:1] }, func(x *api.Type) { x.Names = nil },
		func(x *api.Type) { x.Embeds[0] = false }, func(x *api.Type) { x.Embeds = x.Embeds[:1] }, func(x *api.Type) { x.Embeds = nil },
		func(x *api.Type) { x.Parts[0].Kind = api.TBool }, func(x *api.Type) { x.Parts[1].Parts[0].Name = "C" },
		func(x *api.Type) { x.Parts = x.Parts[:1] }, func(x *api.Type) { x.Parts = nil }, func(x *api.Type) { slices.Reverse(x.Parts) },
	} {
		other := full()
		change(&other)
		if syntax.Same(full(), other) || syntax.Same(other, full()) || syntax.Same(pointer(full()), pointer(other)) {
			t.Error(i, other)
		}
	}
	if !syntax.Same(api.Type{}, api.Type{Names: []string{}, Embeds: []bool{}, Parts: []api.Type{}}) {
		t.Error("nil and empty lists")
	}
	if !syntax.Same(nested(70, integer, pointer), nested(70, integer, pointer)) || syntax.Same(nested(70, integer, pointer), nested(71, integer, pointer)) {
		t.Error("deep trees")
	}
}

// TestSpareRoom: R2, what is handed in stays as it is, its spare room too, and answers share no memory.
func TestSpareRoom(t *testing.T) {
	room := []api.Type{named("A"), named("B"), named("C")}
	a, b := syntax.Names(room[:1]...), syntax.Names(room[:1]...)
	a[0] = "Z"
	if !slices.Equal(b, []string{"A"}) || room[0].Name != "A" || room[1].Name != "B" || room[2].Name != "C" {
		t.Error(b, room)
	}
	spare := function(room[:2]...)
	if s, e := syntax.Type(spare); s != "fn ( A ) B" || e != api.OK || room[2].Name != "C" {
		t.Error(s, e, room)
	}
}
