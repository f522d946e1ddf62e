package value_test

import (
	"math"
	"slices"
	"strings"
	"testing"

	"coil/api"
	"coil/lex"
	"coil/value"
)

// samples has a right value of each kind, and of the kinds with parts one without and one with them.
func (w world) samples() []api.Value {
	return []api.Value{w.num(7), w.truth(1), w.text("a"), w.rec("E"), w.chain(1), w.ptr("*A"), w.ptr("*A", w.chain(2)), w.fn("fn() int", "f")}
}

// TestNoClasses: P10.1 to P10.3, without classes nothing is right.
func TestNoClasses(t *testing.T) {
	w := all(t)
	for _, v := range append(w.samples(), api.Value{}) {
		refused(t, nil, v)
	}
	none := made(t, "")
	for _, v := range append(w.samples(), api.Value{}) {
		refused(t, none.Classes, v)
	}
}

// TestClasses: P10.1, a value's class must be one, and of the value's kind.
func TestClasses(t *testing.T) {
	w := all(t)
	words := map[int]string{api.VInt: "int", api.VBool: "bool", api.VText: "text", api.VRec: "record", api.VPtr: "*", api.VFn: "fn"}
	for _, v := range w.samples() {
		for _, class := range []int{-1, w.Len(), w.Len() + 1, math.MinInt, math.MaxInt, 1 << 32} {
			v.Class = class
			w.isWrong(v)
			w.isWrong(w.rec("T", v))
		}
		for class := range w.Len() {
			if v.Class = class; strings.Fields(w.Label(class))[0] != words[v.Kind] {
				w.isWrong(v)
				w.isWrong(w.rec("T", v))
			}
		}
	}
	// a value of an interface's class there is none
	for _, v := range w.samples() {
		v.Class = w.class("I")
		w.isWrong(v)
	}
	w.isRight(w.fn("fn(int) A", "f"), "fn f")
	w.isRight(w.ptr("*int"), "nil")
	w.isRight(w.ptr("**A"), "nil")
	w.isRight(w.ptr("*I"), "nil")
	w.isRight(w.ptr("*fn() int"), "nil")
}

// TestKinds: P10.1, kinds that are none.
func TestKinds(t *testing.T) {
	w := all(t)
	for _, v := range w.samples() {
		for _, kind := range []int{0, -1, 7, 8, 256 + v.Kind, math.MinInt, math.MaxInt} {
			v.Kind = kind
			w.isWrong(v)
			w.isWrong(w.rec("N", v))
			w.isWrong(w.ptr("*E", v))
		}
	}
}

// TestOtherFields: P10.1, no field is set that the kind has not; empty lists are none.
func TestOtherFields(t *testing.T) {
	w := all(t)
	for _, v := range w.samples() {
		if v.Kind != api.VInt && v.Kind != api.VBool {
			for _, n := range []int{1, -1, math.MinInt} {
				x := v
				x.N = n
				w.isWrong(x)
				w.isWrong(w.rec("T", x))
			}
		}
		if v.Kind != api.VText && v.Kind != api.VFn {
			x := v
			x.S = "a"
			w.isWrong(x)
			x.S = " "
			w.isWrong(w.rec("T", x))
		}
		if v.Kind != api.VRec && v.Kind != api.VPtr {
			for _, parts := range [][]api.Value{{w.num(1)}, {w.rec("E")}, {{}}} {
				x := v
				x.Parts = parts
				w.isWrong(x)
				w.isWrong(w.rec("T", x))
			}
		}
	}
	empty := []api.Value{}
	for _, x := range []struct {
		v    api.Value
		text string
	}{{w.num(7), "7"}, {w.truth(0), "false"}, {w.text(""), ""}, {w.rec("E"), "{}"}, {w.ptr("*A"), "nil"}, {w.fn("fn() int", "f"), "fn f"}} {
		x.v.Parts = empty
		w.isRight(x.v, x.text)
	}
}

// TestBools: P10.1, a bool is 0 or 1; an int is anything.
func TestBools(t *testing.T) {
	w := all(t)
	w.isRight(w.truth(0), "false")
	w.isRight(w.truth(1), "true")
	for _, n := range []int{2, -1, 3, 256, 257, 1 << 32, 1<<32 + 1, math.MinInt, math.MaxInt} {
		w.isWrong(w.truth(n))
		w.isWrong(w.rec("S", w.truth(n), w.fn("fn() int", "f"), w.text(""), w.num(1)))
	}
	w.isRight(w.num(math.MinInt), "-9223372036854775808")
	w.isRight(w.num(math.MaxInt), "9223372036854775807")
	w.isRight(w.num(0), "0")
	w.isRight(w.num(-1), "-1")
	w.isRight(w.num(1000), "1000")
}

// TestTexts: P10.1 and P10.2, which bytes a text has, and how many.
func TestTexts(t *testing.T) {
	w := all(t)
	for b := range 256 {
		for _, s := range []string{string([]byte{byte(b)}), string([]byte{'a', byte(b)}), string([]byte{byte(b), 'a'}), strings.Repeat("a", 4095) + string([]byte{byte(b)})} {
			if b == 10 || b >= 32 && b <= 126 {
				w.isRight(w.text(s), s)
			} else {
				w.isWrong(w.text(s))
			}
		}
	}
	for _, s := range []string{"", "a\n\"\\", "é", strings.Repeat("a", 4095), strings.Repeat("\n", 4096), strings.Repeat("a", 4097), strings.Repeat("a", 1<<20)} {
		if len(s) > 4096 || s == "é" {
			w.isWrong(w.text(s))
			w.isWrong(w.rec("T", w.text(s)))
		} else {
			w.isRight(w.text(s), s)
		}
	}
}

// TestRecords: P10.1, how many parts a record has, and which.
func TestRecords(t *testing.T) {
	w := all(t)
	none := w.ptr("*A")
	w.isWrong(w.rec("A"))
	w.isWrong(w.rec("A", w.num(1)))
	w.isWrong(w.rec("A", none))
	w.isWrong(w.rec("A", none, w.num(1), w.num(2)))
	w.isWrong(w.rec("A", none, w.num(1), api.Value{}))
	w.isWrong(w.rec("E", w.num(1)))
	w.isWrong(w.rec("E", api.Value{}))
	w.isWrong(w.rec("T"))
	w.isWrong(w.rec("T", w.text("a"), w.text("a")))
	// parts that are not right, wherever they stand
	for _, bad := range []api.Value{{}, w.truth(2), w.rec("A"), w.ptr("*A", w.num(1)), w.fn("fn() int", "")} {
		w.isWrong(w.rec("A", bad, w.num(1)))
		w.isWrong(w.rec("A", none, bad))
		w.isWrong(w.rec("T", w.rec("T", w.rec("T", bad))))
		w.isWrong(w.ptr("*T", w.rec("T", bad)))
		w.isWrong(w.rec("B", w.chain(1), w.rec("A", w.ptr("*A", w.rec("A", none, bad)), w.num(1))))
	}
	// right ones, of whatever classes
	for _, v := range w.samples() {
		for _, u := range w.samples() {
			w.isRight(w.rec("A", v, u), "{next: "+w.told(v)+", x: "+w.told(u)+"}")
		}
		w.isRight(w.rec("N", w.rec("N", v)), "{in: {in: "+w.told(v)+"}}")
	}
}

// TestPointers: P10.1, what a pointer points to.
func TestPointers(t *testing.T) {
	w := all(t)
	rec := w.chain(1)
	w.isRight(w.ptr("*A"), "nil")
	w.isRight(w.ptr("*A", rec), "&{next: nil, x: 1}")
	w.isRight(w.ptr("*E", w.rec("E")), "&{}")
	w.isWrong(w.ptr("*A", rec, rec))
	w.isWrong(w.ptr("*A", rec, api.Value{}))
	w.isWrong(w.ptr("*A", w.rec("E")))
	w.isWrong(w.ptr("*E", rec))
	w.isWrong(w.ptr("*A", w.rec("A")))
	w.isWrong(w.ptr("*A", api.Value{}))
	w.isWrong(w.ptr("*O", rec))
	w.isWrong(w.ptr("*I", rec))
	w.isWrong(w.ptr("*I", w.rec("E")))
	// to what is no record: nil alone
	w.isWrong(w.ptr("*int", w.num(1)))
	w.isWrong(w.ptr("*int", w.rec("E")))
	w.isWrong(w.ptr("**A", w.ptr("*A")))
	w.isWrong(w.ptr("**A", w.ptr("*A", rec)))
	w.isWrong(w.ptr("*fn() int", w.fn("fn() int", "f")))
	w.isWrong(w.ptr("*A", w.ptr("*A")))
	for _, v := range w.samples() {
		if v.Kind != api.VRec || v.Class != w.class("A") {
			w.isWrong(w.ptr("*A", v))
		}
		if v.Kind != api.VRec {
			v.Class = w.class("A")
			w.isWrong(w.ptr("*A", v))
		}
	}
}

// TestFunctions: P10.1, what a function's name is.
func TestFunctions(t *testing.T) {
	w := all(t)
	for _, s := range []string{"f", "fX", "f_", "f0_Z", "letx", "lets", strings.Repeat("f", 32)} {
		w.isRight(w.fn("fn() int", s), "fn "+s)
	}
	bad := append(lex.Words(), "", "F", "_f", "0", "1f", "f g", " f", "f ", "f\n", "f.g", "f-", "(", "\"f\"", "é", "fé", "//", "f//", "f\x00", strings.Repeat("f", 33), strings.Repeat("f", 1<<20))
	for _, s := range bad {
		w.isWrong(w.fn("fn() int", s))
		w.isWrong(w.rec("T", w.fn("fn() int", s)))
	}
	if !slices.Contains(bad, "self") {
		t.Error("no words")
	}
}

// TestItself: a list that is a part of itself is no right value, and all calls end.
func TestItself(t *testing.T) {
	w := all(t)
	one, two := []api.Value{w.rec("N")}, []api.Value{w.num(1), w.rec("D")}
	one[0].Parts, two[1].Parts = one, two
	for i, v := range []api.Value{one[0], w.rec("N", one[0]), w.rec("D", w.rec("E"), one[0]), two[1], w.ptr("*D", two[1]), w.rec("A", two[0], two[1])} {
		text, why := value.Text(w.Classes, v)
		got, e := value.Walk(w.Classes, v, "r", "r")
		if value.Right(w.Classes, v) || text != "" || why != api.ErrArg || !isZero(got) || e != api.ErrArg || !value.Same(v, v) {
			t.Error(i, "is right") // it can't be shown
		}
	}
	if !value.Same(one[0], w.rec("N", one[0])) || value.Same(one[0], two[1]) || value.Same(two[1], w.rec("D", w.num(2), two[1])) {
		t.Error("Same")
	}
}

// TestLongerAndShorter: P10.1, lists that lie in one another's memory are told apart.
func TestLongerAndShorter(t *testing.T) {
	w := all(t)
	two := []api.Value{w.rec("E"), w.rec("E")}
	two[1] = w.rec("N", two[:1]...)
	w.isRight(w.rec("D", two...), "{l: {}, r: {in: {}}}")
	w.isRight(w.rec("D", w.rec("N", two[:1]...), w.rec("D", two...)), "{l: {in: {}}, r: {l: {}, r: {in: {}}}}")
	two = []api.Value{w.rec("E"), {}}
	w.isWrong(w.rec("D", w.rec("N", two[:1]...), w.rec("D", two...)))
	w.isWrong(w.rec("D", w.rec("D", two...), w.rec("N", two[:1]...)))
}
