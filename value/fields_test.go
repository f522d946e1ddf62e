package value_test

import (
	"slices"
	"testing"

	"coil/api"
	"coil/value"
)

// TestField: P10.3, of each kind, with names that are fields and with others.
func TestField(t *testing.T) {
	w := all(t)
	none := api.Value{}
	s := w.rec("S", w.truth(1), w.fn("fn() int", "f"), w.text("a"), w.num(3))
	for _, v := range []api.Value{s, w.ptr("*S", s)} {
		for i, name := range []string{"a", "b", "m", "zz"} {
			w.walks(v, s.Parts[i], api.OK, name)
		}
		for _, name := range []string{"", "z", "zzz", "A", "aa", " a", "a:", "x", "next", "\x00", "self"} {
			w.walks(v, none, api.ErrField, name)
		}
	}
	// nil: whatever the name
	for _, src := range []string{"*A", "*S", "*E", "*int", "**A", "*I"} {
		for _, name := range []string{"x", "a", "y", ""} {
			w.walks(w.ptr(src), none, api.ErrNil, name)
		}
	}
	for _, v := range []api.Value{w.num(1), w.truth(1), w.text("x"), w.fn("fn() int", "x"), w.rec("E"), w.ptr("*E", w.rec("E"))} {
		for _, name := range []string{"x", "", "f"} {
			w.walks(v, none, api.ErrField, name)
		}
	}
	// a record's field that isn't of the field's class
	w.walks(w.rec("A", w.num(1), s), w.num(1), api.OK, "next")
	w.walks(w.rec("A", w.num(1), s), s, api.OK, "x")
}

// TestOwnField: P10.3, a field that embedding alone would find, and a method, are none.
func TestOwnField(t *testing.T) {
	w := all(t)
	a := w.chain(2)
	b := w.rec("B", a, w.num(4))
	c := w.rec("C", w.ptr("*A", a), b)
	o := w.rec("O", w.num(1), w.ptr("*O"))
	for _, name := range []string{"x", "next", "m", "i"} {
		w.walks(b, api.Value{}, api.ErrField, name)
		w.walks(w.ptr("*B", b), api.Value{}, api.ErrField, name)
	}
	for _, name := range []string{"x", "next", "m", "y"} {
		w.walks(c, api.Value{}, api.ErrField, name)
	}
	for _, name := range []string{"m", "O", "a"} {
		w.walks(o, api.Value{}, api.ErrField, name)
	}
	w.walks(b, a, api.OK, "a")
	w.walks(b, w.num(1), api.OK, "a", "x")
	w.walks(c, w.ptr("*A", a), api.OK, "a")
	w.walks(c, w.num(1), api.OK, "a", "x")
	w.walks(c, w.num(2), api.OK, "i", "a", "next", "x")
	w.walks(o, w.num(1), api.OK, "of")
}

// TestWalk: P10.3, without a path, through pointers, into a nil, and each of Field's errors on the way.
func TestWalk(t *testing.T) {
	w := all(t)
	none := api.Value{}
	v := w.chain(3)
	w.walks(v, v, api.OK)
	w.walks(v, v, api.OK, []string{}...)
	w.walks(v, w.num(3), api.OK, "next", "next", "x")
	w.walks(v, w.ptr("*A"), api.OK, "next", "next", "next")
	w.walks(w.ptr("*A", v), w.num(2), api.OK, "next", "x")
	w.walks(v, none, api.ErrNil, "next", "next", "next", "x")
	w.walks(v, none, api.ErrNil, "next", "next", "next", "y")
	w.walks(v, none, api.ErrNil, "next", "next", "next", "next", "next", "x")
	w.walks(v, none, api.ErrField, "y")
	w.walks(v, none, api.ErrField, "y", "x")
	w.walks(v, none, api.ErrField, "next", "y", "x")
	w.walks(v, none, api.ErrField, "next", "next", "y")
	w.walks(v, none, api.ErrField, "x", "x")
	w.walks(v, none, api.ErrField, "x", "next", "x")
	w.walks(v, none, api.ErrField, "next", "x", "")
	for _, leaf := range w.samples() {
		w.walks(leaf, leaf, api.OK)
		w.walks(w.rec("A", leaf, w.num(1)), leaf, api.OK, "next")
		w.walks(w.rec("N", w.rec("N", leaf)), leaf, api.OK, "in", "in")
	}
	// what isn't right is refused first, wherever it is wrong
	w.walksNot(w.rec("A", w.rec("A"), w.num(1)), "x")
	w.walksNot(w.rec("A", w.ptr("*A"), w.truth(2)), "next", "x")
	w.walksNot(w.rec("A", w.ptr("*A"), w.truth(2)), "y")
}

// walksNot fails, unless v is refused, whatever the path.
func (w world) walksNot(v api.Value, path ...string) {
	w.t.Helper()
	w.walks(v, api.Value{}, api.ErrArg, path...)
	w.walks(v, api.Value{}, api.ErrArg)
}

// TestPaths: P10.6, a path and then another against both.
func TestPaths(t *testing.T) {
	w := all(t)
	paths := [][]string{nil}
	for i := 0; len(paths[i]) < 3; i++ {
		for _, name := range []string{"next", "x", "a", "i"} {
			paths = append(paths, slices.Concat(paths[i], []string{name}))
		}
	}
	met := map[api.Errno]int{}
	for _, v := range []api.Value{w.chain(4), w.rec("B", w.chain(3), w.num(1)), w.rec("C", w.ptr("*A", w.chain(2)), w.rec("B", w.chain(2), w.num(2))), w.ptr("*A", w.chain(2)), w.num(1), {}} {
		for _, p := range paths {
			for _, q := range paths {
				both, why := value.Walk(w.Classes, v, slices.Concat(p, q)...)
				at, e := value.Walk(w.Classes, v, p...)
				if e == api.OK {
					at, e = value.Walk(w.Classes, at, q...)
				}
				if e != why || !value.Same(at, both) {
					t.Fatalf("%v, %v of %+v: %+v, %v, not %+v, %v", p, q, v, at, e, both, why)
				}
				met[why]++
			}
		}
	}
	if met[api.OK] < 50 || met[api.ErrNil] < 20 || met[api.ErrField] < 1000 || met[api.ErrArg] == 0 {
		t.Error("hardly met:", met)
	}
}
