package value_test

import (
	"reflect"
	"slices"
	"testing"

	"coil/api"
	"coil/canon"
	"coil/value"
)

// copier copies values, with lists that have spare room, and remembers all of them as they were.
type copier struct {
	room   int
	lists  [][]api.Value
	before [][]api.Value
}

func (c *copier) value(v api.Value) api.Value {
	if v.Parts == nil {
		return v
	}
	parts := make([]api.Value, 0, len(v.Parts)+c.room)
	for _, p := range v.Parts {
		parts = append(parts, c.value(p))
	}
	v.Parts = parts
	whole := parts[:cap(parts)]
	for i := len(parts); i < len(whole); i++ {
		whole[i] = api.Value{Kind: -i, S: "spare"}
	}
	c.lists = append(c.lists, whole)
	c.before = append(c.before, slices.Clone(whole))
	return v
}

// unchanged: are all lists as they were, their spare room too?
func (c *copier) unchanged() bool { return reflect.DeepEqual(c.lists, c.before) }

// spoil writes into all lists.
func (c *copier) spoil() {
	for _, l := range c.lists {
		for i := range l {
			l[i] = api.Value{Kind: 77, Class: 77, N: 77, S: "spoilt"}
		}
	}
}

// asked has values with parts of their own and with parts in common, some of them wrong.
func (w world) asked() []api.Value {
	a := w.chain(4)
	shared := w.rec("D", w.ptr("*A", a), w.ptr("*A", a))
	empty := w.num(1)
	empty.Parts = []api.Value{}
	return append(w.samples(), a, shared, w.rec("D", shared, shared), w.rec("B", a, w.num(1)), w.rec("A", w.ptr("*A"), w.truth(2)), w.rec("A", a), w.ptr("*A", a, a), w.rec("E", a), empty, w.rec("N", empty), api.Value{})
}

var ways = [][]string{nil, {"next"}, {"l"}, {"r", "next"}, {"l", "r", "next", "next"}, {"a"}, {"x"}, {"x", "y"}, {"next", "next", "next", "next", "next"}, {"in"}}

// said is all that the calls say of a value.
func said(c *canon.Classes, v api.Value) []any {
	text, why := value.Text(c, v)
	l := []any{value.Right(c, v), text, why, value.Same(v, v)}
	for _, way := range ways {
		x, why := value.Walk(c, v, way...)
		l = append(l, clone(x), why)
		if len(way) == 1 {
			x, why := value.Field(c, v, way[0])
			l = append(l, clone(x), why)
		}
	}
	return l
}

// TestHandedIn: R2, values that are handed in are not changed, their spare room included; nor is a path; and answers don't
// hang on spare room.
func TestHandedIn(t *testing.T) {
	w := all(t)
	told := w.Text()
	for _, v := range w.asked() {
		want := said(w.Classes, v)
		for room := range 3 {
			c := copier{room: room}
			x, y := c.value(v), c.value(v)
			if got := said(w.Classes, x); !reflect.DeepEqual(got, want) || !value.Same(x, y) {
				t.Errorf("%+v: %+v, not %+v", x, got, want)
			}
			if !c.unchanged() {
				t.Errorf("%+v: changed, with room for %d", v, room)
			}
		}
	}
	path := append(make([]string, 0, 4), "next", "next", "x", "spare")[:3]
	if _, why := value.Walk(w.Classes, w.chain(4), path...); why != api.OK || !slices.Equal(path[:4], []string{"next", "next", "x", "spare"}) {
		t.Error(path[:4], why)
	}
	if w.Text() != told {
		t.Error("the classes have changed")
	}
}

// TestAnswers: R2, an answer shares no memory with what was handed in, either way.
func TestAnswers(t *testing.T) {
	w := all(t)
	asks := []func(v api.Value, way []string) (api.Value, api.Errno){
		func(v api.Value, way []string) (api.Value, api.Errno) { return value.Walk(w.Classes, v, way...) },
		func(v api.Value, way []string) (api.Value, api.Errno) {
			return value.Field(w.Classes, v, append(slices.Clone(way), "x")[0])
		},
	}
	found := 0
	for _, v := range w.asked() {
		for _, way := range ways {
			for _, ask := range asks {
				handed := copier{room: 1}
				x := handed.value(v)
				got, why := ask(x, way)
				if why == api.OK {
					found++
				}
				kept := clone(got)
				other, _ := ask(x, way)
				spoilAll(other)
				if !handed.unchanged() || !value.Same(got, kept) {
					t.Fatalf("%v of %+v: an answer shares memory", way, v)
				}
				handed.spoil()
				if !value.Same(got, kept) {
					t.Fatalf("%v of %+v: an answer shares memory", way, v)
				}
			}
		}
	}
	if found < 40 {
		t.Error("hardly met:", found)
	}
}

// spoilAll writes into all lists of a value, and their spare room.
func spoilAll(v api.Value) {
	whole := v.Parts[:cap(v.Parts)]
	for i := range whole {
		spoilAll(whole[i])
		whole[i] = api.Value{Kind: 88, S: "spoilt"}
	}
}

// lists are those of a value, with their spare room: each as its places.
func lists(v api.Value) [][]*api.Value {
	var places []*api.Value
	whole := v.Parts[:cap(v.Parts)]
	for i := range whole {
		places = append(places, &whole[i])
	}
	l := [][]*api.Value{places}
	for _, p := range v.Parts {
		l = append(l, lists(p)...)
	}
	return l
}

// TestLists: R2, no two lists of one answer share memory, though the value's do.
func TestLists(t *testing.T) {
	w := all(t)
	a := w.chain(3)
	d := w.rec("D", w.ptr("*A", a), w.rec("D", a, a))
	v := w.rec("D", w.rec("D", d, d), w.rec("D", w.rec("E"), d))
	for _, way := range [][]string{nil, {"l"}, {"l", "l"}, {"r", "r"}, {"r", "r", "r"}} {
		got, why := value.Walk(w.Classes, v, way...)
		if why != api.OK {
			t.Fatal(way, why)
		}
		met, n := map[*api.Value]struct{}{}, 0
		for _, l := range lists(got) {
			for _, place := range l {
				met[place] = struct{}{}
				n++
			}
		}
		if len(met) != n || n < 10 {
			t.Error(way, n, len(met))
		}
	}
}
