package value_test

import (
	"strings"
	"testing"

	"coil/api"
	"coil/value"
)

// told is the text of a right value.
func (w world) told(v api.Value) string {
	w.t.Helper()
	s, why := value.Text(w.Classes, v)
	if why != api.OK {
		w.t.Errorf("%+v: %v", v, why)
	}
	return s
}

// isBig fails, unless v is right and too long.
func (w world) isBig(v api.Value) {
	w.t.Helper()
	if s, why := value.Text(w.Classes, v); s != "" || why != api.ErrBig || !value.Right(w.Classes, v) {
		w.t.Errorf("%d bytes, %v", len(s), why)
	}
}

// TestText: P10.2, texts of each kind, nested.
func TestText(t *testing.T) {
	w := all(t)
	w.isRight(w.rec("S", w.truth(1), w.fn("fn(int) A", "fz"), w.text("a b"), w.num(-3)), "{a: true, b: fn fz, m: a b, zz: -3}")
	w.isRight(w.rec("O", w.num(1), w.ptr("*O", w.rec("O", w.num(2), w.ptr("*O")))), "{of: 1, y: &{of: 2, y: nil}}")
	w.isRight(w.rec("B", w.chain(2), w.num(4)), "{a: {next: &{next: nil, x: 2}, x: 1}, y: 4}")
	w.isRight(w.rec("C", w.ptr("*A", w.chain(1)), w.rec("O", w.num(1), w.ptr("*O"))), "{a: &{next: nil, x: 1}, i: {of: 1, y: nil}}")
	w.isRight(w.rec("N", w.rec("E")), "{in: {}}")
	w.isRight(w.rec("T", w.text("")), "{x: }")
	w.isRight(w.rec("T", w.text("a\n{\", ")), "{x: a\n{\", }")
	w.isRight(w.chain(3), "{next: &{next: &{next: nil, x: 3}, x: 2}, x: 1}")
	w.isRight(w.ptr("*T", w.rec("T", w.rec("T", w.text("true")))), "&{x: {x: true}}")
}

// TestBig: P10.2, a text of 4096 bytes, and of one more, with each sort of thing as the last one that is written.
func TestBig(t *testing.T) {
	w := all(t)
	long := func(n int) api.Value { return w.text(strings.Repeat("a", n)) }
	for _, x := range []struct {
		of    func(n int) api.Value
		signs int // all bytes but those of the long text
	}{
		{func(n int) api.Value { return w.rec("T", long(n)) }, len("{x: }")},
		{func(n int) api.Value { return w.ptr("*T", w.rec("T", long(n))) }, len("&{x: }")},
		{func(n int) api.Value { return w.rec("A", long(n), w.num(12345)) }, len("{next: , x: 12345}")},
		{func(n int) api.Value { return w.rec("A", w.num(-12345), long(n)) }, len("{next: -12345, x: }")},
		{func(n int) api.Value { return w.rec("A", long(n), w.truth(0)) }, len("{next: , x: false}")},
		{func(n int) api.Value { return w.rec("A", long(n), w.ptr("*A")) }, len("{next: , x: nil}")},
		{func(n int) api.Value { return w.rec("A", long(n), w.fn("fn() int", "function")) }, len("{next: , x: fn function}")},
		{func(n int) api.Value { return w.rec("A", long(n), w.rec("E")) }, len("{next: , x: {}}")},
		{func(n int) api.Value { return w.rec("A", long(n), w.rec("T", w.text(""))) }, len("{next: , x: {x: }}")},
		{func(n int) api.Value { return w.rec("N", w.rec("N", w.rec("N", long(n)))) }, len("{in: {in: {in: }}}")},
	} {
		most := api.MaxString - x.signs
		for n := most - 3; n <= most; n++ {
			if s := w.told(x.of(n)); len(s) != n+x.signs || strings.Count(s, "aaa") < n/3 {
				t.Error(len(s), n)
			}
		}
		for n := most + 1; n <= api.MaxString; n++ {
			w.isBig(x.of(n))
		}
	}
	w.isBig(w.rec("D", long(4096), long(4096)))
	if s := w.told(long(4096)); len(s) != 4096 {
		t.Error(len(s))
	}
}

// TestBigBySigns: P10.2, by the signs between alone.
func TestBigBySigns(t *testing.T) {
	w := all(t)
	// {in: {in: .. {} .. }}
	for _, x := range []struct {
		v     func(i int, v api.Value) api.Value
		first api.Value
	}{
		{func(_ int, v api.Value) api.Value { return w.rec("N", v) }, w.rec("E")},
		{func(_ int, v api.Value) api.Value { return w.rec("T", v) }, w.text("")},
		{func(_ int, v api.Value) api.Value { return w.rec("D", v, w.rec("E")) }, w.rec("E")},
		{func(_ int, v api.Value) api.Value { return w.rec("D", w.text(""), v) }, w.text("")},
		{func(_ int, v api.Value) api.Value { return w.rec("A", w.ptr("*A"), v) }, w.rec("E")},
	} {
		short := len(w.told(x.first))
		each := len(w.told(x.v(0, x.first))) - short
		v, big := x.first, false
		for i := range api.MaxString {
			if size := short + i*each; size > api.MaxString {
				w.isBig(v)
				big = true
				break
			} else if s := w.told(v); len(s) != size {
				t.Fatal(len(s), size)
			}
			v = x.v(i, v)
		}
		if !big {
			t.Error("never too big")
		}
	}
	// just as many as there may be: 819 times 5 bytes and one text's byte more, or two
	v := w.text("a")
	for range 819 {
		v = w.rec("T", v)
	}
	if s := w.told(v); len(s) != 4096 {
		t.Error(len(s))
	}
	v = w.text("ab")
	for range 819 {
		v = w.rec("T", v)
	}
	w.isBig(v)
	v = w.rec("T", v)
	w.isBig(v)
}

// TestBigOrWrong: P10.2, what isn't right is refused as such, however long its text would be ahead of that.
func TestBigOrWrong(t *testing.T) {
	w := all(t)
	long := w.text(strings.Repeat("a", 4096))
	w.isBig(w.rec("D", long, w.truth(1)))
	w.isWrong(w.rec("D", long, w.truth(2)))
	w.isWrong(w.rec("D", w.rec("D", long, long), w.rec("D", long, w.rec("D"))))
}
