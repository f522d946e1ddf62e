package unfold_test

import (
	"math"
	"slices"
	"strconv"
	"strings"
	"testing"

	"coil/api"
	"coil/unfold"
)

// TestTexts: P5.2, the chapter's runs, and each kind, to several depths.
func TestTexts(t *testing.T) {
	d := made(t, "type A = {n int; next *A;}; type B = {next *A; n int;}; type P = *P; "+
		"type D = {embed b A; a fn(int, D) bool;}; method D.m() int {} type E = interface {z() int; a(int) E;};")
	for _, c := range []struct {
		src   string
		depth int
		want  string
	}{
		{"A", 3, "record n next(int, *(record n next))"},
		{"B", 3, "record n next(int, *(record n next))"},
		{"A", 0, ".."},
		{"A", -1, ".."},
		{"A", math.MinInt, ".."},
		{"int", 0, ".."},
		{"int", 1, "int"},
		{"int", 2, "int"},
		{"int", math.MaxInt, "int"},
		{"A", 1, "record n next"},
		{"B", 2, "record n next(int, *)"},
		{"A", 4, "record n next(int, *(record n next(int, *)))"},
		{"P", 1, "*"},
		{"P", 2, "*(*)"},
		{"P", 5, "*(*(*(*(*))))"},
		{"P", 7, "*(*(*(*(*(*(*))))))"},
		{"P", 8, "*(*(*(*(*(*(*(*)))))))"},
		{"P", 9, "*(*(*(*(*(*(*(*)))))))"},
		{"P", 1000, "*(*(*(*(*(*(*(*)))))))"},
		{"P", math.MaxInt, "*(*(*(*(*(*(*(*)))))))"},
		{"********int", 8, "*(*(*(*(*(*(*(*)))))))"},
		{"*******int", 8, "*(*(*(*(*(*(*(int)))))))"},
		{"*******int", 7, "*(*(*(*(*(*(*))))))"},
		{"{}", 3, "record"},
		{"interface {}", 3, "interface"},
		{"fn() int", 1, "fn 1"},
		{"fn() int", 2, "fn 1(int)"},
		{"fn(text, bool) int", 2, "fn 3(text, bool, int)"},
		{"D", 1, "record of D a +b"},
		{"D", 2, "record of D a +b(fn 3, record n next)"},
		{"D", 3, "record of D a +b(fn 3(int, record of D a +b, bool), record n next(int, *))"},
		{"E", 2, "interface a z(fn 2, fn 1)"},
		{"E", 3, "interface a z(fn 2(int, interface a z), fn 1(int))"},
		{"{b {z int; y text;}; a bool;}", 9, "record a b(bool, record y z(text, int))"},
	} {
		if s := unfold.Text(d.Graph, d.of(c.src), c.depth); s != c.want {
			t.Errorf("%s, %d: %q, not %q", c.src, c.depth, s, c.want)
		}
	}
}

// long are definitions whose texts, to that depth, have that many bytes, in several shapes: the last byte is one of a
// name, of a number of parts, or a `)`.
func long(depth, bytes int) []api.Def {
	around := 0 // `*(` and `)` of pointers around
	name := "A"
	var defs []api.Def
	for i := range depth - 1 {
		next := "P" + strconv.Itoa(i)
		defs = append(defs, def(next, pointer(named(name))))
		name = next
		around += 3
	}
	names := []string{}
	for room := bytes - around - len("record"); room > 0; {
		n := min(room, 33)
		if room > 33 && room < 35 {
			n = 32 // so that there is room for one more
		}
		digits := strconv.Itoa(10000 + len(names))
		names = append(names, ("f" + digits + strings.Repeat("x", 33))[:n-1])
		room -= n
	}
	defs = append(defs, def("A", record(names, slices.Repeat([]api.Type{named("I")}, len(names))...)))
	return append(defs, def("I", api.Type{Kind: api.TInt}), def("Whole", named(name)))
}

// TestTextAroundMaxText: P5.2, a text of just MaxText bytes is one; with one more it is empty.
func TestTextAroundMaxText(t *testing.T) {
	for _, depth := range []int{1, 2, 3, api.MaxDepth} {
		for more := -3; more <= 40; more++ {
			d := built(t, long(depth, api.MaxText+more)...)
			s := unfold.Text(d.Graph, d.of("Whole"), depth)
			if more <= 0 && len(s) != api.MaxText+more || more > 0 && s != "" {
				t.Errorf("depth %d, %d bytes more: %d", depth, more, len(s))
			}
			if s := unfold.Text(d.Graph, d.of("Whole"), 0); s != ".." {
				t.Error(s)
			}
		}
	}
}

// TestTextOfManyParts: P5.2, the text may become too long at any of its parts, and at what stands between them.
func TestTextOfManyParts(t *testing.T) {
	integer := api.Type{Kind: api.TInt}
	for parts := 13095; parts < 13115; parts++ {
		fn := api.Type{Kind: api.TFn, Parts: slices.Repeat([]api.Type{named("I")}, parts)}
		d := built(t, def("I", integer), def("F", fn), def("G", pointer(named("F"))))
		want := "fn " + strconv.Itoa(parts) + "(" + strings.Repeat("int, ", parts-1) + "int)"
		for _, c := range []struct{ name, want string }{{"F", want}, {"G", "*(" + want + ")"}} {
			if len(c.want) > api.MaxText {
				c.want = ""
			}
			if s := unfold.Text(d.Graph, d.of(c.name), 5); s != c.want {
				t.Errorf("%s of %d parts: %d bytes, not %d", c.name, parts, len(s), len(c.want))
			}
		}
	}
}

// TestTextOfManyPaths: P5.2, a text that would be far too long is empty at once.
func TestTextOfManyPaths(t *testing.T) {
	var names []string
	for i := range 3000 {
		names = append(names, "f"+strconv.Itoa(i))
	}
	parts := slices.Repeat([]api.Type{named("A")}, len(names))
	d := built(t, def("A", record(names, parts...)), def("B", api.Type{Kind: api.TFn, Parts: slices.Repeat(parts, 100)}))
	for range 20 {
		for depth := 1; depth < 10; depth++ {
			s := unfold.Text(d.Graph, d.of("A"), depth)
			if (s == "") != (depth > 1) {
				t.Error(depth, len(s))
			}
		}
		if s := unfold.Text(d.Graph, d.of("B"), 8); s != "" {
			t.Error(len(s))
		}
	}
}
