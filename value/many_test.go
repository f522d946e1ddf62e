package value_test

import (
	"runtime"
	"slices"
	"strconv"
	"strings"
	"testing"
	"time"

	"coil/api"
	"coil/value"
)

// soon fails, unless it ends within a time that is far more than it needs.
func soon(t *testing.T, do func()) {
	t.Helper()
	done := make(chan struct{})
	go func() {
		defer close(done)
		do()
	}()
	select {
	case <-done:
	case <-time.After(time.Minute):
		t.Fatal("it does not end")
	}
}

// doubled has that many levels, each with twice what the next one has, as the same list: records, or pointers to them.
func (w world) doubled(levels int, pointers bool, leaf api.Value) api.Value {
	v := leaf
	for range levels {
		v = w.rec("D", v, v)
		if pointers {
			v = w.ptr("*D", v)
		}
	}
	return v
}

// allocated is how many bytes are laid out meanwhile.
func allocated(do func()) uint64 {
	var before, behind runtime.MemStats
	runtime.ReadMemStats(&before)
	do()
	runtime.ReadMemStats(&behind)
	return behind.TotalAlloc - before.TotalAlloc
}

// TestDoubled: P10.5, values whose parts double at each level: their texts would have no end, but no more of them is written
// than there may be.
func TestDoubled(t *testing.T) {
	w := all(t)
	for _, pointers := range []bool{false, true} {
		for _, leaf := range []api.Value{w.rec("E"), w.text(""), w.text(strings.Repeat("a", 4096))} {
			v := w.doubled(20, pointers, leaf)
			if n := allocated(func() { w.isBig(v) }); n > 1<<20 {
				t.Fatal(n, "bytes")
			}
		}
		for _, levels := range []int{5, 21, 64, 1000, 30000} {
			v, other := w.doubled(levels, pointers, w.num(1)), w.doubled(levels, pointers, w.num(1))
			wrong, differs := w.doubled(levels, pointers, w.truth(2)), w.doubled(levels, pointers, w.num(2))
			path := slices.Repeat([]string{"l", "r", "r"}, levels)[:levels]
			soon(t, func() {
				if s, why := value.Text(w.Classes, v); (why == api.OK) != (levels == 5) || (s == "") != (levels > 5) {
					t.Error(levels, len(s), why)
				}
				refused(t, w.Classes, wrong)
				w.walks(v, w.num(1), api.OK, path...)
				w.walks(v, api.Value{}, api.ErrField, append(path, "l")...)
				same(t, v, v, true)
				same(t, v, other, true)
				same(t, v, differs, false)
				same(t, v, w.rec("D", v, v), false)
			})
		}
	}
}

// TestUneven: P10.5, a level's two parts lie at different depths.
func TestUneven(t *testing.T) {
	w := all(t)
	made := func(last int) api.Value {
		a, b := w.num(1), w.num(last)
		for range 5000 {
			a, b = b, w.rec("D", a, b)
		}
		return b
	}
	v := made(2)
	soon(t, func() {
		w.isBig(v)
		same(t, v, made(2), true)
		same(t, v, made(3), false)
		w.walks(v, v.Parts[0].Parts[0].Parts[0].Parts[0].Parts[0].Parts[1].Parts[1].Parts[1].Parts[1], api.ErrField, "l", "x")
		if value.Right(w.Classes, w.rec("D", v, w.rec("D", v))) {
			t.Error("right")
		}
	})
}

// TestDeep: R6, as many parts in one another as there may be.
func TestDeep(t *testing.T) {
	const deep = 1 << 16
	w := all(t)
	v := w.chain(deep / 2)
	w.isBig(v)
	w.walks(v, w.num(deep/2), api.OK, append(slices.Repeat([]string{"next"}, deep/2-1), "x")...)
	w.walks(v, api.Value{}, api.ErrNil, slices.Repeat([]string{"next"}, deep)...)
	w.walks(v, v, api.OK)
	same(t, v, w.chain(deep/2), true)
	same(t, v, w.chain(deep/2-1), false)
	good, bad, other := w.rec("E"), w.rec("N"), w.num(1)
	for range deep - 1 {
		good, bad, other = w.rec("N", good), w.rec("N", bad), w.rec("N", other)
	}
	w.isBig(good)
	if value.Right(w.Classes, bad) {
		t.Error("right")
	}
	same(t, good, other, false)
	same(t, good, clone(good), true)
}

// TestWide: P10.2 and P10.3, a record of as many fields as there can be, in another order than that of their names.
func TestWide(t *testing.T) {
	const fields = api.MaxTypes - 24
	var b strings.Builder
	b.WriteString("type W = {")
	for i := range fields {
		b.WriteString("f" + strconv.Itoa(i) + " int; ")
	}
	b.WriteString("};")
	w := made(t, b.String(), "int", "text", "W", "*W")
	names := make([]string, fields)
	for i := range names {
		names[i] = "f" + strconv.Itoa(i)
	}
	slices.Sort(names)
	v := w.rec("W")
	for i := range fields {
		v.Parts = append(v.Parts, w.num(i))
	}
	w.isBig(v)
	for i, name := range names {
		w.walks(w.ptr("*W", v), w.num(i), api.OK, name)
	}
	w.isWrong(w.rec("W", v.Parts[:fields-1]...))
	w.isWrong(w.rec("W", append(slices.Clip(v.Parts), w.num(1))...))
}

// TestLargest: P10.2, the names of many fields, and the signs between them, come to just as many bytes as there may be, or
// to one more.
func TestLargest(t *testing.T) {
	const fields = 585 // of each its name, of three bytes, and four signs but for the last one, which has two, as the brackets
	for _, x := range []struct {
		last string
		size int
	}{{"zzz", 4095}, {"zzzz", 4096}, {"zzzzz", 4097}} {
		src, last := "type W = {", x.last
		for i := range fields - 1 {
			src += "q" + string(rune('a'+i/26)) + string(rune('a'+i%26)) + " int; "
		}
		w := made(t, src+last+" int;};", "text", "W")
		v := w.rec("W", slices.Repeat([]api.Value{w.text("")}, fields)...)
		if x.size > api.MaxString {
			w.isBig(v)
		} else if s := w.told(v); len(s) != x.size || !strings.HasPrefix(s, "{qaa: , qab: , ") || !strings.HasSuffix(s, ": , "+last+": }") {
			t.Error(len(s))
		}
	}
}
