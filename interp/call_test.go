package interp_test

import (
	"math"
	"slices"
	"strconv"
	"strings"
	"testing"

	"coil/api"
	"coil/check"
	"coil/interp"
	"coil/parse"
)

// world is a program, and the classes of types that it has.
type world struct {
	*check.Checked
	t  *testing.T
	of map[string]int // those that were asked
}

func newWorld(t *testing.T, c *check.Checked) world { return world{c, t, map[string]int{}} }

// class is that of a type that the program names.
func (w world) class(src string) int {
	w.t.Helper()
	if class, ok := w.of[src]; ok {
		return class
	}
	x, err := parse.Type(src)
	if err != nil {
		w.t.Fatal(src, err)
	}
	ids, err := w.Classes().Ids(x)
	if err != nil || ids[0] >= w.Classes().Len() {
		w.t.Fatal(src, ids, err)
	}
	w.of[src] = ids[0]
	return ids[0]
}

func (w world) num(n int) api.Value { return api.Value{Kind: api.VInt, Class: w.class("int"), N: n} }

func (w world) truth(n int) api.Value {
	return api.Value{Kind: api.VBool, Class: w.class("bool"), N: n}
}

func (w world) text(s string) api.Value {
	return api.Value{Kind: api.VText, Class: w.class("text"), S: s}
}

func (w world) rec(src string, parts ...api.Value) api.Value {
	return api.Value{Kind: api.VRec, Class: w.class(src), Parts: parts}
}

func (w world) ptr(src string, parts ...api.Value) api.Value {
	return api.Value{Kind: api.VPtr, Class: w.class(src), Parts: parts}
}

func (w world) fn(src, name string) api.Value {
	return api.Value{Kind: api.VFn, Class: w.class(src), S: name}
}

// called has functions that take values of all sorts.
const called = set + "type W = {a I; f fn(A) I; p *W; w *L;}; type X = {a A; f fn(J) A; p *X; w *L;}; type O = {l O2; r O2;}; type O2 = interface {}; " +
	"func num(n int) int { print n; return n + 1; } func zero() text { return \"zero\"; } func two(a text, b bool) text { print a; print b; return a; } " +
	"func iface(i I) int { return i.m(); } func any(t T) T { return t; } func rec(b B) int { return b.x + b.m(); } func ptr(p *A) int { return p.x; } func list(l L) int { let s = l.n; let p = l.next; while 0 < p.n { s = s + p.n; p = p.next; } return s; } " +
	"func wide(w W) int { return (w.f)(A{x: 5}).m() + w.a.m(); } func narrow(x X) W { return x; } func app(f fn(A) I) I { return f(A{x: 3}); } func same(a A) A { return a; } func up(t T) A { print t; return A{x: 9}; } func lower(j J) A { return A{x: j.m()}; } func wrong(a A) int { return 1; } func up2(a A, b A) I { return a; } " +
	"func down(n int) int { if n < 1 { return 0; } return down(n - 1) + 1; } func keep(p *W) *W { return p; } func embeds(d D) int { return d.m(); } " +
	"main int { let x fn(A) I = same; let y fn(J) A = lower; let z fn(T) A = up; let v O = O{l: 1, r: 2}; let p = nil *W; let q = nil *X; let d = nil *D; let e = nil *C; let f = nil *B; return 0; }"

func calledWorld(t *testing.T) world { return newWorld(t, checked(t, called)) }

// comes fails, unless a call comes to that, with enough fuel and with less.
func (w world) comes(out string, why api.Errno, value string, steps int, name string, args ...api.Value) {
	w.t.Helper()
	o := interp.Call(w.Checked, api.MaxFuel, name, args...)
	if strings.Join(o.Out, "|") != out || o.Why != why || o.Value != value || o.Steps != steps {
		w.t.Errorf("%s of %+v: %+v, not %q %v %q %d", name, args, o, out, why, value, steps)
	}
	grows(w.t, name, o, func(fuel int) api.Outcome { return interp.Call(w.Checked, fuel, name, args...) })
}

// TestCall: P11.2, functions called with sound values of all sorts.
func TestCall(t *testing.T) {
	w := calledWorld(t)
	a := w.rec("A", w.num(4))
	w.comes("", api.OK, "zero", 2, "zero")
	w.comes("5", api.OK, "6", 3, "num", w.num(5))
	w.comes("-9223372036854775808", api.OK, "-9223372036854775807", 3, "num", w.num(math.MinInt))
	w.comes("a b|true", api.OK, "a b", 4, "two", w.text("a b"), w.truth(1))
	w.comes("\n|false", api.OK, "\n", 4, "two", w.text("\n"), w.truth(0))
	for _, v := range []api.Value{a, w.ptr("*A", a), w.rec("B", a, w.text("")), w.ptr("*C", w.rec("C", w.ptr("*A", a))), w.rec("D", w.rec("D", w.ptr("*A", a)))} {
		w.comes("", api.OK, "4", 4, "iface", v)
		w.comes("", api.OK, "4", 4, "embeds", w.rec("D", v))
	}
	w.comes("", api.ErrNil, "", 2, "iface", w.ptr("*A"))
	w.comes("", api.ErrNil, "", 2, "embeds", w.rec("D", w.ptr("*D")))
	w.comes("", api.OK, "8", 4, "rec", w.rec("B", a, w.text("b")))
	w.comes("", api.OK, "4", 2, "ptr", w.ptr("*A", a))
	w.comes("", api.ErrNil, "", 2, "ptr", w.ptr("*A"))
	w.comes("", api.OK, "6", 1+2+3+2*2+1, "list", w.rec("L", w.num(1), w.ptr("*L", w.rec("L", w.num(2), w.ptr("*L", w.rec("L", w.num(3), w.ptr("*L", w.rec("L", w.num(0), w.ptr("*L")))))))))
	w.comes("", api.OK, "499", 1500, "down", w.num(499))
}

// TestSound: P11.2, right values whose parts are below their fields, however deep, and whose functions' types are below their
// classes.
func TestSound(t *testing.T) {
	w := calledWorld(t)
	a, nl := w.rec("A", w.num(4)), w.ptr("*L")
	for _, f := range []api.Value{w.fn("fn(A) I", "same"), w.fn("fn(A) I", "lower"), w.fn("fn(A) I", "up"), w.fn("fn(A) A", "same"), w.fn("fn(J) A", "lower"), w.fn("fn(A) A", "lower"), w.fn("fn(T) A", "up"), w.fn("fn(J) A", "up")} {
		out, value, steps := "", "3", 4
		switch f.S {
		case "lower":
			steps += 2
		case "up":
			out, value, steps = "{x: 3}", "9", 5
		}
		w.comes(out, api.OK, "{x: "+value+"}", steps, "app", f)
		out, value, steps = "", "9", 8
		switch f.S {
		case "lower":
			steps += 2
		case "up":
			out, value, steps = "{x: 5}", "13", 9
		}
		w.comes(out, api.OK, value, steps, "wide", w.rec("W", a, f, w.ptr("*W"), nl))
	}
	x := w.rec("X", a, w.fn("fn(J) A", "lower"), w.ptr("*X"), nl)
	const text = "{a: {x: 4}, f: fn lower, p: nil, w: nil}"
	w.comes("", api.OK, text, 2, "narrow", x)
	w.comes("", api.OK, "9", 10, "wide", x) // its class is another one, below
	w.comes("", api.OK, "&"+text, 2, "keep", w.ptr("*X", x))
	w.comes("", api.OK, "&{a: &{x: 4}, f: fn up, p: &"+text+", w: nil}", 2, "keep", w.ptr("*W", w.rec("W", w.ptr("*A", a), w.fn("fn(T) A", "up"), w.ptr("*X", x), nl)))
	for _, v := range []api.Value{w.num(1), w.truth(1), w.text("t"), a, w.ptr("*A"), x, w.fn("fn(A) A", "same"), w.rec("O", w.rec("O", x, x), w.fn("fn(T) A", "up")), w.rec("D", w.rec("D", a))} {
		o := interp.Call(w.Checked, 9, "any", v)
		if o.Why != api.OK || o.Steps != 2 || len(o.Out) > 0 || o.Value == "" {
			t.Errorf("%+v: %+v", v, o)
		}
	}
}

// unsound are arguments that are refused, by the function.
func (w world) unsound() map[string][][]api.Value {
	a, nl := w.rec("A", w.num(4)), w.ptr("*L")
	f, x := w.fn("fn(A) I", "same"), w.rec("X", w.rec("A", w.num(4)), w.fn("fn(J) A", "lower"), w.ptr("*X"), w.ptr("*L"))
	wide := func(parts ...api.Value) api.Value { return w.rec("W", parts...) }
	l := map[string][][]api.Value{
		"zero":   {{w.num(1)}, {a, a}},
		"two":    {nil, {w.text("")}, {w.text(""), w.truth(1), w.truth(1)}, {w.truth(1), w.text("")}, {w.text(""), w.truth(2)}, {w.text("\x00"), w.truth(1)}, {w.text(strings.Repeat("a", 4097)), w.truth(1)}, {w.text(""), w.num(1)}},
		"num":    {{w.truth(1)}, {w.text("1")}, {a}, {{}}, {{Kind: api.VInt, Class: -1}}, {{Kind: api.VInt, Class: w.class("bool")}}, {{Kind: api.VInt, Class: w.Classes().Len()}}, {{Kind: api.VBool, Class: w.class("int"), N: 1}}, {{Kind: api.VInt, Class: w.class("int"), S: "s"}}, {{Kind: 7, Class: w.class("int")}}, {{Kind: api.VInt, Class: w.class("int"), Parts: []api.Value{w.num(1)}}}},
		"iface":  {{w.num(1)}, {w.rec("L", w.num(1), nl)}, {w.ptr("*L")}, {x}, {f}, {w.ptr("*W")}},
		"rec":    {{a}, {w.ptr("*B", w.rec("B", a, w.text("")))}, {w.rec("B", a)}, {w.rec("B", a, w.num(1))}, {w.rec("B", w.num(1), w.text(""))}, {w.rec("B", w.rec("A", w.truth(1)), w.text(""))}, {w.rec("B", w.ptr("*A", a), w.text(""))}, {w.rec("C", w.ptr("*A", a))}},
		"ptr":    {{a}, {w.ptr("*B")}, {w.ptr("*L")}, {w.ptr("*A", w.rec("A", w.text("")))}, {w.ptr("*A", a, a)}, {w.ptr("*A", w.rec("L", w.num(1), nl))}, {w.ptr("*A", w.ptr("*A"))}},
		"list":   {{w.rec("L", w.num(1), w.ptr("*A"))}, {w.rec("L", w.num(1), w.ptr("*L", w.rec("L", w.truth(1), nl)))}, {w.rec("L", w.num(1), w.rec("L", w.num(1), nl))}},
		"embeds": {{w.rec("D", w.num(1))}, {w.rec("D", w.rec("D", w.rec("D", nl)))}, {a}, {w.ptr("*D")}},
		"app":    {{a}, {w.fn("fn(A) I", "wrong")}, {w.fn("fn(A) I", "up2")}, {w.fn("fn(A) I", "noone")}, {w.fn("fn(A) I", "m")}, {w.fn("fn(A) I", "zero")}, {w.fn("fn(A) I", "")}, {w.fn("fn(A) I", "Same")}, {w.fn("fn(A) I", "main")}, {w.fn("fn(J) A", "same")}, {w.fn("fn(T) A", "lower")}, {w.fn("fn(A) int", "wrong")}, {w.fn("fn(int) int", "num")}},
		"wide":   {{w.rec("A", w.num(1))}, {wide(w.num(1), f, w.ptr("*W"), nl)}, {wide(a, f, w.ptr("*L"), nl)}, {wide(a, f, w.ptr("*W"), w.ptr("*A"))}, {wide(a, w.fn("fn(A) int", "wrong"), w.ptr("*W"), nl)}, {wide(a, w.fn("fn(A) I", "wrong"), w.ptr("*W"), nl)}, {wide(a, f, w.ptr("*W", wide(a, w.fn("fn(A) I", "noone"), w.ptr("*W"), nl)), nl)}, {wide(a, f, w.ptr("*W", wide(nl, f, w.ptr("*W"), nl)), nl)}},
		"narrow": {{wide(a, f, w.ptr("*W"), nl)}, {w.rec("X", w.ptr("*A", a), x.Parts[1], x.Parts[2], nl)}, {w.rec("X", a, f, x.Parts[2], nl)}, {w.rec("X", a, x.Parts[1], w.ptr("*W"), nl)}, {w.rec("X", a, w.fn("fn(J) A", "same"), x.Parts[2], nl)}},
		"any":    {{w.rec("O", w.rec("O", x, x), w.fn("fn(T) A", "lower"))}, {w.rec("O", w.rec("O", x, w.rec("D", w.num(1))), w.num(1))}, {w.rec("O", w.num(1))}, {{}}},
		"noone":  {nil, {a}}, "": {nil, {a}}, "m": {nil, {a}}, "main": {nil}, "A": {nil}, "Num": {{w.num(1)}}, "num ": {{w.num(1)}}, "A.m": {nil, {a}},
	}
	return l
}

// TestUnsound: P11.2, a name that is no function's, too few and too many arguments, and such that aren't right or sound:
// ahead of fuel that is none.
func TestUnsound(t *testing.T) {
	w := calledWorld(t)
	for name, lists := range w.unsound() {
		for _, args := range lists {
			for _, fuel := range []int{math.MinInt, -1, 0, 1, 99, api.MaxFuel, api.MaxFuel + 1} {
				if o := interp.Call(w.Checked, fuel, name, args...); o.Why != api.ErrArg || len(o.Out) > 0 || o.Value != "" || o.Steps != 0 {
					t.Errorf("%s of %+v: %+v", name, args, o)
				}
			}
		}
	}
	for _, fuel := range []int{math.MinInt, -1, 0, 9, api.MaxFuel + 1} {
		alone(t, interp.Call(nil, fuel, "num", w.num(1)), api.ErrArg)
		alone(t, interp.Call(nil, fuel, ""), api.ErrArg)
	}
	for _, fuel := range []int{math.MinInt, -1, api.MaxFuel + 1, math.MaxInt} {
		alone(t, interp.Call(w.Checked, fuel, "num", w.num(1)), api.ErrRange)
		alone(t, interp.Call(w.Checked, fuel, "zero"), api.ErrRange)
	}
	part := w.rec("O", w.num(1), w.num(1))
	part.Parts[0].Kind, part.Parts[0].Class, part.Parts[0].N, part.Parts[0].Parts = api.VRec, part.Class, 0, part.Parts // a part of itself
	alone(t, interp.Call(w.Checked, 9, "any", part), api.ErrArg)
}

// TestCounted: P11.2, the call is counted, and is open.
func TestCounted(t *testing.T) {
	w := calledWorld(t)
	if o := interp.Call(w.Checked, 0, "zero"); o.Why != api.ErrFuel || o.Steps != 0 || len(o.Out) > 0 || o.Value != "" {
		t.Error(o)
	}
	if o := interp.Call(w.Checked, 1, "zero"); o.Why != api.ErrFuel || o.Steps != 1 || o.Value != "" {
		t.Error(o)
	}
	if o := interp.Call(w.Checked, 2, "zero"); o.Why != api.OK || o.Steps != 2 || o.Value != "zero" {
		t.Error(o)
	}
	for n := api.MaxCalls - 3; n < api.MaxCalls+3; n++ {
		o := interp.Call(w.Checked, api.MaxFuel, "down", w.num(n))
		if n < api.MaxCalls && (o.Why != api.OK || o.Value != strconv.Itoa(n) || o.Steps != 3*(n+1)) || n >= api.MaxCalls && (o.Why != api.ErrCalls || o.Value != "" || o.Steps != 3*api.MaxCalls+1) {
			t.Error(n, o)
		}
	}
	if o := interp.Call(w.Checked, api.MaxFuel, "two", w.text(strings.Repeat("a", 4096)), w.truth(1)); o.Why != api.OK || !slices.Equal(sizes(o), []int{4096, 4}) || len(o.Value) != 4096 {
		t.Error(o.Why, sizes(o))
	}
	if o := interp.Call(w.Checked, api.MaxFuel, "any", w.rec("O", w.text(strings.Repeat("a", 4096)), w.num(1))); o.Why != api.ErrBig || o.Value != "" || o.Steps != 2 {
		t.Error(o.Why, o.Steps)
	}
}
