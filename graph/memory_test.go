package graph_test

import (
	"reflect"
	"slices"
	"testing"

	"coil/api"
	"coil/graph"
)

// roomy is a list with spare room behind it, in which something stands.
func roomy[T any](spare T, l ...T) []T {
	return append(append(make([]T, 0, len(l)+2), l...), spare, spare)[:len(l)]
}

// whole is a list with its spare room.
func whole[T any](l []T) []T { return slices.Clone(l[:cap(l)]) }

// roomyType is a record whose lists all have spare room.
func roomyType() api.Type {
	return api.Type{
		Kind:   api.TRec,
		Names:  roomy("spare", "b", "a"),
		Embeds: roomy(true, true, false),
		Parts:  roomy(api.Type{}, pointer(named("A")), api.Type{Kind: api.TFn, Parts: roomy(api.Type{}, integer(), named("A"))}),
	}
}

func roomySet() ([]api.Def, []api.Code) {
	defs := roomy(def(9, "A", integer()), def(1, "A", roomyType()), def(2, "B", named("A")))
	m := method(3, "A", "m", roomyType())
	m.Params = roomy(api.Param{Name: "spare"}, api.Param{Name: "x", T: roomyType()})
	return defs, roomy(api.Code{}, m)
}

const roomyNodes = "rec of A +b=1 a=2; * 0; fn 3 0; int; " +
	"fn 5 9; rec +b=6 a=7; * 0; fn 8 0; int; rec +b=10 a=11; * 0; fn 12 0; int"

// TestHandedIn: R2, what is handed in stays as it is, its spare room too, and is not kept.
func TestHandedIn(t *testing.T) {
	defs, methods := roomySet()
	g, err := graph.New(defs, methods...)
	if err != nil {
		t.Fatal(err)
	}
	sameDefs, sameMethods := roomySet()
	if !reflect.DeepEqual(whole(defs), whole(sameDefs)) || !reflect.DeepEqual(whole(methods), whole(sameMethods)) {
		t.Error("changed", defs, methods)
	}
	for i, d := range []api.Type{defs[0].T, methods[0].Params[0].T, methods[0].Result} {
		same := roomyType()
		if !slices.Equal(whole(d.Names), whole(same.Names)) || !slices.Equal(whole(d.Embeds), whole(same.Embeds)) ||
			!reflect.DeepEqual(whole(d.Parts), whole(same.Parts)) || !reflect.DeepEqual(whole(d.Parts[1].Parts), whole(same.Parts[1].Parts)) {
			t.Error("changed", i)
		}
	}
	if !reflect.DeepEqual(whole(methods[0].Params), whole(sameMethods[0].Params)) {
		t.Error("changed", methods[0].Params)
	}
	shows(t, g, roomyNodes, "A=0 A.m=4 B=0")
	spoil(&defs[0].T)
	spoil(&methods[0].Params[0].T)
	spoil(&methods[0].Result)
	defs[0].Name, defs[1].Name, methods[0].Owner, methods[0].Name = "Y", "Z", "Y", "z"
	shows(t, g, roomyNodes, "A=0 A.m=4 B=0")

	list := roomy(integer(), roomyType(), named("B"))
	if l, err := g.Add(list...); err != nil || !slices.Equal(l, []int{13, 0}) {
		t.Error(l, err)
	}
	if !reflect.DeepEqual(whole(list), []api.Type{roomyType(), named("B"), integer(), integer()}) {
		t.Error("changed", list)
	}
	spoil(&list[0])
	shows(t, g, roomyNodes+"; rec +b=14 a=15; * 0; fn 16 0; int", "A=0 A.m=4 B=0")
}

// spoil changes all that stands in a type's lists.
func spoil(t *api.Type) {
	for i := range t.Names {
		t.Names[i] = "spoilt"
	}
	for i := range t.Embeds {
		t.Embeds[i] = !t.Embeds[i]
	}
	for i := range t.Parts {
		spoil(&t.Parts[i])
		t.Parts[i] = api.Type{Kind: api.TText}
	}
}

// fill writes into all of a list, and its spare room.
func fill[T any](l []T, x T) {
	l = l[:cap(l)]
	for i := range l {
		l[i] = x
	}
}

// TestAnswers: R2, answers are new memory: writing into them, or into their spare room, changes nothing.
func TestAnswers(t *testing.T) {
	defs, methods := roomySet()
	g, err := graph.New(defs, methods...)
	if err != nil {
		t.Fatal(err)
	}
	for _, c := range []*graph.Graph{g, g.Copy()} {
		for n := range c.Len() {
			parts, names, embeds := c.Parts(n), c.Names(n), c.Embeds(n)
			fill(c.Parts(n), 99)
			fill(c.Names(n), "spoilt")
			fill(c.Embeds(n), true)
			if !slices.Equal(parts, c.Parts(n)) || !slices.Equal(names, c.Names(n)) || !slices.Equal(embeds, c.Embeds(n)) {
				t.Error(n)
			}
		}
		fill(c.Roots(), "Spoilt")
		fill(c.Methods("A"), "spoilt")
		shows(t, c, roomyNodes, "A=0 A.m=4 B=0")
	}
	l := add(t, g, "int", "A")
	other := add(t, g, "int", "*B")
	fill(l, 99)
	shows(t, g, roomyNodes+"; int; int; * 0", "A=0 A.m=4 B=0")
	if !slices.Equal(other, []int{14, 15}) {
		t.Error(other)
	}
}
