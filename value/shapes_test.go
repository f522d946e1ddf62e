package value_test

import (
	"strings"
	"testing"

	"coil/api"
	"coil/value"
)

// TestPlace: the number of a field is that of its value among a record's parts; an interface's methods have theirs, too.
func TestPlace(t *testing.T) {
	w := all(t)
	s := value.ShapesOf(w.Classes)
	for _, x := range []struct {
		of, name string
		place    int
		ok       bool
	}{
		{"A", "next", 0, true}, {"A", "x", 1, true}, {"S", "a", 0, true}, {"S", "b", 1, true}, {"S", "m", 2, true}, {"S", "zz", 3, true}, {"O", "y", 1, true}, {"B", "a", 0, true}, {"I", "m", 0, true},
		{"A", "y", 0, false}, {"E", "x", 0, false}, {"*A", "x", 0, false}, {"int", "x", 0, false}, {"O", "m", 0, false}, {"B", "x", 0, false}, {"I", "x", 0, false}, {"*I", "m", 0, false}, {"A", "", 0, false},
	} {
		for range 2 {
			if place, ok := s.Place(w.class(x.of), x.name); ok != x.ok || ok && place != x.place {
				t.Errorf("%s of %s: %d, %v", x.name, x.of, place, ok)
			}
		}
	}
	for _, class := range []int{-1, w.Len()} {
		if _, ok := s.Place(class, "x"); ok {
			t.Error(class)
		}
	}
}

// TestShapesText: the text of right values is the same, whoever is asked.
func TestShapesText(t *testing.T) {
	w := all(t)
	s := value.ShapesOf(w.Classes)
	for _, v := range append(w.samples(), w.chain(5), w.doubled(20, true, w.num(1)), w.text(strings.Repeat("a", 4096)), w.rec("T", w.text(strings.Repeat("a", 4096)))) {
		want, e := value.Text(w.Classes, v)
		if got, why := s.Text(v); got != want || why != e {
			t.Errorf("%+v: %q, %v, not %q, %v", v, got, why, want, e)
		}
	}
}

// TestEvery: all values, and all in them, however deep, are right and as they are asked; what is shared is asked once.
func TestEvery(t *testing.T) {
	w := all(t)
	yes := func(api.Value) bool { return true }
	few := func(v api.Value) bool { return v.Kind != api.VInt || v.N < 5 }
	if !value.Every(w.Classes, yes) || !value.Every(w.Classes, func(api.Value) bool { return false }) {
		t.Error("none")
	}
	if value.Every(nil, yes) || value.Every(nil, yes, w.num(1)) {
		t.Error("no classes")
	}
	for _, x := range []struct {
		values []api.Value
		right  bool
		few    bool
	}{
		{[]api.Value{w.num(1)}, true, true}, {[]api.Value{w.num(5)}, true, false}, {[]api.Value{w.num(1), w.num(4), w.text("")}, true, true}, {[]api.Value{w.num(1), w.num(5)}, true, false}, {[]api.Value{w.num(5), w.num(1)}, true, false},
		{[]api.Value{w.chain(4)}, true, true}, {[]api.Value{w.chain(5)}, true, false}, {[]api.Value{w.ptr("*A", w.chain(4))}, true, true}, {[]api.Value{w.num(1), w.ptr("*A", w.chain(9)), w.num(1)}, true, false},
		{[]api.Value{w.truth(2)}, false, false}, {[]api.Value{w.num(1), w.rec("A", w.num(1))}, false, false}, {[]api.Value{{}, w.num(1)}, false, false},
	} {
		if got := value.Every(w.Classes, yes, x.values...); got != x.right {
			t.Errorf("%+v: %v", x.values, got)
		}
		if got := value.Every(w.Classes, few, x.values...); got != x.few {
			t.Errorf("%+v: %v", x.values, got)
		}
	}
	asked := 0
	v := w.doubled(3000, true, w.num(1))
	if !value.Every(w.Classes, func(api.Value) bool { asked++; return true }, v, v, v) || asked > 4*3000 {
		t.Error(asked)
	}
}
