package value_test

import (
	"math"
	"strings"
	"testing"

	"coil/api"
	"coil/value"
)

// TestMade: ints, bools and texts that are made are right; a text that is too long is refused.
func TestMade(t *testing.T) {
	w := all(t)
	for _, n := range []int{0, 1, -1, math.MaxInt, math.MinInt} {
		if v := value.OfInt(w.class("int"), n); !value.Same(v, w.num(n)) || !value.Right(w.Classes, v) {
			t.Error(v)
		}
	}
	for n, ok := range []bool{false, true} {
		if v := value.OfBool(w.class("bool"), ok); !value.Same(v, w.truth(n)) || value.True(v) != ok || !value.Right(w.Classes, v) {
			t.Error(v)
		}
	}
	for _, n := range []int{0, 1, api.MaxString - 1, api.MaxString, api.MaxString + 1, 2 * api.MaxString} {
		v, why := value.OfText(w.class("text"), strings.Repeat("a", n))
		switch {
		case n > api.MaxString:
			if why != api.ErrBig || !value.Same(v, api.Value{}) {
				t.Error(n, why)
			}
		case why != api.OK || !value.Same(v, w.text(strings.Repeat("a", n))):
			t.Error(n, why)
		}
	}
}

// TestUnary: what signs and words make of one value.
func TestUnary(t *testing.T) {
	w := all(t)
	for a, b := range map[int]int{0: 0, 1: -1, -7: 7, math.MaxInt: -math.MaxInt, math.MinInt: math.MinInt} {
		if v := value.Unary(api.XNeg, w.class("int"), w.num(a)); !value.Same(v, w.num(b)) {
			t.Error(a, v)
		}
	}
	for n := range 2 {
		if v := value.Unary(api.XNot, w.class("bool"), w.truth(n)); !value.Same(v, w.truth(1-n)) {
			t.Error(n, v)
		}
	}
}

// TestBinary: what signs and words make of two values; numbers wrap round, texts are compared by their bytes.
func TestBinary(t *testing.T) {
	w := all(t)
	long := strings.Repeat("a", api.MaxString)
	for _, x := range []struct {
		kind int
		of   string
		a, b api.Value
		want api.Value
		why  api.Errno
	}{
		{api.XMul, "int", w.num(3), w.num(-4), w.num(-12), api.OK}, {api.XMul, "int", w.num(math.MaxInt), w.num(2), w.num(-2), api.OK},
		{api.XAdd, "int", w.num(3), w.num(-4), w.num(-1), api.OK}, {api.XAdd, "int", w.num(math.MaxInt), w.num(1), w.num(math.MinInt), api.OK},
		{api.XSub, "int", w.num(3), w.num(4), w.num(-1), api.OK}, {api.XSub, "int", w.num(math.MinInt), w.num(1), w.num(math.MaxInt), api.OK},
		{api.XAdd, "text", w.text("ab"), w.text("c"), w.text("abc"), api.OK}, {api.XAdd, "text", w.text(""), w.text(""), w.text(""), api.OK},
		{api.XAdd, "text", w.text(long), w.text(""), w.text(long), api.OK}, {api.XAdd, "text", w.text(long[1:]), w.text("a"), w.text(long), api.OK}, {api.XAdd, "text", w.text("a"), w.text(long), api.Value{}, api.ErrBig}, {api.XAdd, "text", w.text(long), w.text(long), api.Value{}, api.ErrBig},
		{api.XEq, "bool", w.num(3), w.num(3), w.truth(1), api.OK}, {api.XEq, "bool", w.num(3), w.num(-3), w.truth(0), api.OK}, {api.XEq, "bool", w.text("a"), w.text("a"), w.truth(1), api.OK}, {api.XEq, "bool", w.text("a"), w.text("A"), w.truth(0), api.OK}, {api.XEq, "bool", w.truth(0), w.truth(0), w.truth(1), api.OK}, {api.XEq, "bool", w.truth(0), w.truth(1), w.truth(0), api.OK},
		{api.XLess, "bool", w.num(-3), w.num(2), w.truth(1), api.OK}, {api.XLess, "bool", w.num(2), w.num(2), w.truth(0), api.OK}, {api.XLess, "bool", w.num(3), w.num(2), w.truth(0), api.OK}, {api.XLess, "bool", w.text("Z"), w.text("a"), w.truth(1), api.OK}, {api.XLess, "bool", w.text("a"), w.text("ab"), w.truth(1), api.OK}, {api.XLess, "bool", w.text("b"), w.text("ab"), w.truth(0), api.OK}, {api.XLess, "bool", w.text("a"), w.text("a"), w.truth(0), api.OK},
		{api.XAnd, "bool", w.truth(1), w.truth(0), w.truth(0), api.OK}, {api.XAnd, "bool", w.truth(1), w.truth(1), w.truth(1), api.OK}, {api.XOr, "bool", w.truth(0), w.truth(0), w.truth(0), api.OK}, {api.XOr, "bool", w.truth(0), w.truth(1), w.truth(1), api.OK},
	} {
		if v, why := value.Binary(x.kind, w.class(x.of), x.a, x.b); !value.Same(v, x.want) || why != x.why {
			t.Errorf("%d of %+v and %+v: %+v, %v", x.kind, x.a, x.b, v, why)
		}
	}
}

// TestFollowed: what a pointer points to, and any other value itself.
func TestFollowed(t *testing.T) {
	w := all(t)
	for _, v := range w.samples() {
		got, why := value.Followed(v)
		switch {
		case v.Kind != api.VPtr:
			if !value.Same(got, v) || why != api.OK {
				t.Error(v, got, why)
			}
		case len(v.Parts) == 0:
			if !value.Same(got, api.Value{}) || why != api.ErrNil {
				t.Error(v, got, why)
			}
		case !value.Same(got, v.Parts[0]) || why != api.OK:
			t.Error(v, got, why)
		}
	}
}

// TestShapesWalk: the fields of right values are the same, whoever is asked; and a value with far too many parts is walked, too.
func TestShapesWalk(t *testing.T) {
	w := all(t)
	s := value.ShapesOf(w.Classes)
	for _, v := range append(w.samples(), w.chain(5), w.ptr("*A", w.chain(3))) {
		for _, path := range [][]string{nil, {"x"}, {"next"}, {"next", "x"}, {"next", "next", "next"}, {"a"}, {"a", "x"}, {"y"}, {"m"}, {""}, {"l", "r"}} {
			want, e := value.Walk(w.Classes, v, path...)
			if got, why := s.Walk(v, path...); !value.Same(got, want) || why != e {
				t.Errorf("%+v, %v: %+v, %v, not %+v, %v", v, path, got, why, want, e)
			}
		}
	}
	v := w.doubled(3000, true, w.num(1))
	if _, why := s.Walk(v, "l", "r", "r"); why != api.OK {
		t.Error(why)
	}
}
