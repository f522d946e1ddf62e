package value_test

import (
	"testing"

	"coil/api"
	"coil/canon"
	"coil/graph"
	"coil/parse"
	"coil/value"
)

// runs are the definitions of the chapter's runs.
const runs = "type A = {x int; next *A;}; "

// set has records of all sorts: without fields, with one, with several in another order than that of their names, with an
// owner, with embedded fields, and one whose values may hold twice what one holds.
const set = runs + "type E = {}; type T = {x text;}; type S = {zz int; a bool; m text; b fn(int) int;}; type O = {of int; y *O;}; method O.m() int {} " +
	"type B = {embed a A; y int;}; type C = {embed a *A; embed i I;}; type I = interface {m() int;}; type D = {l *D; r *D;}; type N = {in E;}; "

// world is classes, with those of types that are asked.
type world struct {
	*canon.Classes
	t  *testing.T
	of map[string]int
}

// made is the world of a text, with these types.
func made(t *testing.T, src string, types ...string) world {
	t.Helper()
	defs, methods, err := parse.Defs(src)
	if err != nil {
		t.Fatal(src, err)
	}
	g, err := graph.New(defs, methods...)
	if err != nil {
		t.Fatal(src, err)
	}
	var list []api.Type
	for _, src := range types {
		x, err := parse.Type(src)
		if err != nil {
			t.Fatal(src, err)
		}
		list = append(list, x)
	}
	c, ids, err := canon.New(g).With(list...)
	if err != nil {
		t.Fatal(err)
	}
	w := world{c, t, map[string]int{}}
	for i, src := range types {
		w.of[src] = ids[i]
	}
	return w
}

// all is the world of the set, with a type of each kind and more.
func all(t *testing.T) world {
	t.Helper()
	return made(t, set, "int", "bool", "text", "A", "*A", "E", "*E", "T", "*T", "S", "*S", "O", "*O", "B", "*B", "C", "*C", "I", "*I", "D", "*D", "N", "fn() int", "fn(int) A", "*int", "**A", "*fn() int")
}

// class is that of a type that the world was asked for.
func (w world) class(src string) int {
	w.t.Helper()
	n, ok := w.of[src]
	if !ok {
		w.t.Fatal(src)
	}
	return n
}

func (w world) num(n int) api.Value { return api.Value{Kind: api.VInt, Class: w.class("int"), N: n} }

func (w world) truth(n int) api.Value {
	return api.Value{Kind: api.VBool, Class: w.class("bool"), N: n}
}

func (w world) text(s string) api.Value {
	return api.Value{Kind: api.VText, Class: w.class("text"), S: s}
}

func (w world) rec(src string, parts ...api.Value) api.Value {
	return api.Value{Kind: api.VRec, Class: w.class(src), Parts: parts}
}

func (w world) ptr(src string, parts ...api.Value) api.Value {
	return api.Value{Kind: api.VPtr, Class: w.class(src), Parts: parts}
}

func (w world) fn(src, name string) api.Value {
	return api.Value{Kind: api.VFn, Class: w.class(src), S: name}
}

// chain is an A of that many, the first one with x 1.
func (w world) chain(n int) api.Value {
	next := w.ptr("*A")
	for i := n; i > 1; i-- {
		next = w.ptr("*A", w.rec("A", next, w.num(i)))
	}
	return w.rec("A", next, w.num(1))
}

// isRight fails, unless v is right and has that text.
func (w world) isRight(v api.Value, text string) {
	w.t.Helper()
	if !value.Right(w.Classes, v) {
		w.t.Errorf("%+v is not right", v)
	}
	if s, why := value.Text(w.Classes, v); s != text || why != api.OK {
		w.t.Errorf("%+v: %q, %v, not %q", v, s, why, text)
	}
	if x, why := value.Walk(w.Classes, v); why != api.OK || !value.Same(x, v) {
		w.t.Errorf("%+v: %+v, %v", v, x, why)
	}
}

// isWrong fails, unless all calls refuse v.
func (w world) isWrong(v api.Value) {
	w.t.Helper()
	refused(w.t, w.Classes, v)
}

func refused(t *testing.T, c *canon.Classes, v api.Value) {
	t.Helper()
	if value.Right(c, v) {
		t.Errorf("%+v is right", v)
	}
	if s, why := value.Text(c, v); s != "" || why != api.ErrArg {
		t.Errorf("Text of %+v: %q, %v", v, s, why)
	}
	if x, why := value.Field(c, v, "x"); !isZero(x) || why != api.ErrArg {
		t.Errorf("Field of %+v: %+v, %v", v, x, why)
	}
	for _, path := range [][]string{nil, {"x"}, {"next", "next", "x"}} {
		if x, why := value.Walk(c, v, path...); !isZero(x) || why != api.ErrArg {
			t.Errorf("Walk of %+v: %+v, %v", v, x, why)
		}
	}
}

func isZero(v api.Value) bool {
	return v.Kind == 0 && v.Class == 0 && v.N == 0 && v.S == "" && len(v.Parts) == 0
}

// walks fails, unless the path leads to want, or is refused with why; so Field, if the path has one name.
func (w world) walks(v api.Value, want api.Value, why api.Errno, path ...string) {
	w.t.Helper()
	got, e := value.Walk(w.Classes, v, path...)
	if e != why || why == api.OK && !value.Same(got, want) || why != api.OK && !isZero(got) {
		w.t.Errorf("%v of %+v: %+v, %v, not %+v, %v", path, v, got, e, want, why)
	}
	if len(path) != 1 {
		return
	}
	if one, e := value.Field(w.Classes, v, path[0]); e != why || !value.Same(one, got) {
		w.t.Errorf("%v of %+v: %+v, %v, not %+v, %v", path, v, one, e, got, why)
	}
}
