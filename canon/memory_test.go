package canon_test

import (
	"reflect"
	"slices"
	"testing"

	"coil/api"
	"coil/canon"
)

const kept = runs + "type D = {embed b A; a fn(int, D) bool;}; method D.m(x text) int {} type E = interface {z() int; a(int) E;};"

// told is all that classes say of themselves.
func told(c *canon.Classes) []any {
	g := c.Graph()
	l := []any{c.Len(), c.Text(), g.Len()}
	for n := range g.Len() {
		k, _ := c.Of(n)
		l = append(l, k, g.Kind(n), slices.Clone(g.Parts(n)), slices.Clone(g.Names(n)), slices.Clone(g.Embeds(n)), g.Owner(n))
	}
	for k := range c.Len() {
		n, _ := c.Node(k)
		l = append(l, n, c.Label(k), slices.Clone(c.Children(k)))
	}
	for _, name := range g.Roots() {
		k, _ := c.Root(name)
		l = append(l, name, k)
	}
	return l
}

// spoil writes into all of a list, and its spare room.
func spoil(l []int) {
	l = l[:cap(l)]
	for i := range l {
		l[i] = 99
	}
}

// TestAnswers: R2, what is written into answers, or into their spare room, changes nothing of the classes, and nothing of
// other answers.
func TestAnswers(t *testing.T) {
	c := made(t, kept)
	l := types(t, "*bool", "A", "{x bool;}")
	more, ids, err := c.With(l...)
	if err != nil {
		t.Fatal(err)
	}
	before, beforeMore := told(c), told(more)
	again, _ := c.Ids(l...)
	same := slices.Clone(again)
	spoil(ids)
	if !slices.Equal(again, same) {
		t.Error(again, same)
	}
	spoil(again)
	for _, x := range []*canon.Classes{c, more} {
		for k := range x.Len() {
			children, other := x.Children(k), x.Children(k)
			same := slices.Clone(other)
			spoil(children)
			if !slices.Equal(other, same) {
				t.Error(k, other, same)
			}
		}
		add(t, x.Graph(), "text", "{y E;}")
	}
	if !reflect.DeepEqual(told(c), before) || !reflect.DeepEqual(told(more), beforeMore) {
		t.Error("the classes have changed")
	}
	numbers(t, c, l, same...)
}

// roomy is a type with lists that have spare room, which stays as it is.
func roomy() api.Type {
	names := append(make([]string, 0, 8), "b", "a", "c")
	embeds := append(make([]bool, 0, 8), false, true, false)
	part := append(make([]api.Type, 0, 8), named("C"))
	parts := append(make([]api.Type, 0, 8), named("A"), api.Type{Kind: api.TPtr, Parts: part}, api.Type{Kind: api.TBool})
	names[:4][3], embeds[:4][3], parts[:4][3] = "spare", true, named("Spare")
	part[:2][1] = named("Spare")
	return api.Type{Kind: api.TRec, Names: names, Embeds: embeds, Parts: parts}
}

// TestHandedIn: R2, types that are handed in are not changed, their spare room included, and not kept.
func TestHandedIn(t *testing.T) {
	c := made(t, kept)
	before := told(c)
	l := append(make([]api.Type, 0, 8), roomy(), named("A"), roomy())
	l[:4][3] = named("Spare")
	if _, err := c.Ids(l...); err != nil {
		t.Fatal(err)
	}
	more := withs(t, c, l...)
	for _, x := range []api.Type{l[0], l[2]} {
		whole := func(x api.Type) []any {
			return []any{x.Kind, x.Name, x.Names[:cap(x.Names)], x.Embeds[:cap(x.Embeds)], x.Parts[:cap(x.Parts)], x.Parts[1].Parts[:8]}
		}
		if !reflect.DeepEqual(whole(x), whole(roomy())) {
			t.Errorf("%+v", x)
		}
	}
	if !reflect.DeepEqual(l[:8], []api.Type{roomy(), named("A"), roomy(), named("Spare"), {}, {}, {}, {}}) {
		t.Errorf("%+v", l[:8])
	}
	beforeMore := told(more)
	for i := range l {
		for k := range l[i].Parts {
			l[i].Names[k], l[i].Embeds[k], l[i].Parts[k] = "spoilt", true, named("Spoilt")
		}
		l[i] = api.Type{}
	}
	if !reflect.DeepEqual(told(more), beforeMore) || !reflect.DeepEqual(told(c), before) {
		t.Error("the classes have changed")
	}
}

// TestGraphs: P6.1, the graph that is handed in and those that are handed out are three: what is added to one comes to no
// other.
func TestGraphs(t *testing.T) {
	g := drawn(t, kept)
	nodes := g.Len()
	c := canon.New(g)
	before := told(c)
	if g.Len() != nodes {
		t.Error(g.Len())
	}
	for range 5 { // so that there is spare room, or none
		add(t, g, "bool")
		add(t, c.Graph(), "{x int;}", "{y int;}")
		more := withs(t, c, types(t, "bool")...)
		beforeMore := told(more)
		add(t, more.Graph(), "text")
		add(t, c.Graph(), "*bool")
		add(t, g, "*text")
		if !reflect.DeepEqual(told(c), before) || !reflect.DeepEqual(told(more), beforeMore) {
			t.Error("the classes have changed")
		}
		c = canon.New(g)
		before = told(c)
	}
	if g.Len() != nodes+15 {
		t.Error(g.Len())
	}
}
