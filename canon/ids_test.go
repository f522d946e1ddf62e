package canon_test

import (
	"errors"
	"slices"
	"strings"
	"testing"

	"coil/api"
	"coil/canon"
	"coil/graph"
)

// TestIds: P6.2 and P6.6, the chapter's run, types whose trees are there, those whose are not, names, none.
func TestIds(t *testing.T) {
	c := made(t, runs) // 0 to 7
	for _, x := range []struct {
		types string
		want  []int
	}{
		{"{next *B; n int;} | bool | *bool | bool", []int{0, 8, 9, 8}},
		{"*bool | B", []int{8, 0}},

		// there
		{"A | B | C", []int{0, 0, 3}},
		{"int | *A | *B | text | *text | int", []int{1, 2, 2, 7, 6, 1}},
		{"{n int; next *text;} | *{next *text; n int;} | {next *{n int; next *text;}; n int;}", []int{5, 4, 3}},
		{"{next *{n int; next *{next *A; n int;};}; n int;}", []int{0}},

		// not there: each type ahead of what it leads to, and that ahead of the next type
		{"bool", []int{8}},
		{"bool | bool", []int{8, 8}},
		{"**bool", []int{8}},
		{"**bool | *bool | bool", []int{8, 9, 10}},
		{"**bool | bool | *bool", []int{8, 10, 9}},
		{"**bool | {}", []int{8, 11}},
		{"*bool | A | {} | bool | *{}", []int{8, 0, 10, 9, 11}},
		{"fn(**A, {}, *{}) fn() int | fn() int | *{} | {} | **A", []int{8, 12, 11, 10, 9}},
		{"{b *{}; a *bool;} | bool | *bool | {} | *{}", []int{8, 10, 9, 12, 11}},
		{"interface {b() bool; a() A;} | fn() bool | fn() A | fn() B", []int{8, 10, 9, 9}},

		// the same tree, written otherwise
		{"{x A; y int;} | {y int; x B;} | {x {next *B; n int;}; y int;}", []int{8, 8, 8}},
		{"{x int;} | {embed x A;} | {x A;} | {embed x B;}", []int{8, 9, 10, 9}},
		{"interface {p(int) int; q() A;} | interface {q() B; p(int) int;}", []int{8, 8}},
		{"fn(int, A) B | fn(A, int) B | fn(int, B) A", []int{8, 9, 8}},
	} {
		l := types(t, strings.Split(x.types, "|")...)
		numbers(t, c, l, x.want...)
		numbers(t, c, l, x.want...) // nothing was kept
	}
	for range 2 {
		numbers(t, c, nil)
		numbers(t, c, []api.Type{})
	}
	if c.Len() != 8 || c.Graph().Len() != drawn(t, runs).Len() {
		t.Error(c.Len())
	}
}

// TestIdsOfAdded: P6.2, classes to which no definition leads are there as well.
func TestIdsOfAdded(t *testing.T) {
	g := drawn(t, "type A = int;")
	add(t, g, "*text", "bool")
	c := canon.New(g)
	shows(t, c, "0 int", "1 * 2", "2 text", "3 bool")
	numbers(t, c, types(t, "bool", "*bool", "text", "*text", "**text", "A"), 3, 4, 2, 1, 5, 0)
	more := withs(t, c, types(t, "*bool", "**text")...)
	shows(t, more, "0 int", "1 * 2", "2 text", "3 bool", "4 * 3", "5 * 1")
	numbers(t, more, types(t, "bool", "*bool", "{}", "**text", "A"), 3, 4, 6, 5, 0)
}

// TestWith: P6.2, the classes of the graph with the types, against Ids; the elder ones stay as they were.
func TestWith(t *testing.T) {
	c := made(t, runs)
	before, nodes := c.Text(), c.Graph().Len()
	l := types(t, "*bool", "B", "{b *{}; a text; c *bool;}", "bool", "*bool")
	more, ids, err := c.With(l...)
	if err != nil || !slices.Equal(ids, []int{8, 0, 10, 9, 8}) {
		t.Fatal(ids, err)
	}
	if s := more.Text(); s != before+lines("8 * 9", "9 bool", "10 record a b c 7 11 8", "11 * 12", "12 record") || more.Len() != 13 {
		t.Error(s)
	}
	g := c.Graph()
	at, err := g.Add(l...)
	if err != nil || more.Graph().Len() != g.Len() {
		t.Error(more.Graph().Len(), err)
	}
	for i, n := range at {
		if k, ok := more.Of(n); k != ids[i] || !ok {
			t.Error(i, k, ok)
		}
	}
	roots(t, more, map[string]int{"A": 0, "B": 0, "C": 3})
	if n, ok := more.Node(12); n != at[2]+2 || !ok {
		t.Error(n, ok)
	}

	// the elder ones
	if c.Text() != before || c.Len() != 8 || c.Graph().Len() != nodes {
		t.Error(c.Text())
	}
	if _, ok := c.Of(nodes); ok {
		t.Error("a node more")
	}
	numbers(t, c, types(t, "bool", "*bool"), 8, 9)

	// the younger ones number from their own Len on
	numbers(t, more, types(t, "bool", "*bool", "**bool", "{}", "*{}", "A", "{c *bool; a text; b *{};}"), 9, 8, 13, 12, 11, 0, 10)
	shows(t, withs(t, more, types(t, "**bool")...), append(strings.Split(strings.TrimSpace(more.Text()), "\n"), "13 * 8")...)
	if more.Len() != 13 {
		t.Error(more.Len())
	}
}

// TestWithNone: P6.2, without types, or with such ones alone as are there, nothing is new.
func TestWithNone(t *testing.T) {
	c := made(t, runs)
	for _, l := range [][]api.Type{nil, {}, types(t, "A", "C"), types(t, "int", "*B", "{next *A; n int;}")} {
		more, ids, err := c.With(l...)
		if err != nil || len(ids) != len(l) || more == c || more.Text() != c.Text() || more.Len() != c.Len() {
			t.Error(ids, err)
		}
		g := c.Graph()
		if _, err := g.Add(l...); err != nil || more.Graph().Len() != g.Len() {
			t.Error(more.Graph().Len(), err)
		}
		for class := range c.Len() {
			n, _ := c.Node(class)
			if m, ok := more.Node(class); m != n || !ok {
				t.Error(class, m, n)
			}
		}
	}
}

// refuses fails, unless Ids and With refuse the types so, with nothing beside it, and change nothing.
func refuses(t *testing.T, c *canon.Classes, why api.Errno, name string, l ...api.Type) {
	t.Helper()
	before, nodes := c.Text(), c.Graph().Len()
	ids, err := c.Ids(l...)
	more, withIds, withErr := c.With(l...)
	if len(ids) != 0 || len(withIds) != 0 || more != nil {
		t.Error(ids, withIds, more)
	}
	_, want := c.Graph().Add(l...)
	for _, e := range []error{err, withErr, want} {
		var r *graph.Refusal
		if !errors.As(e, &r) || r.Why != why || r.Name != name || r.At != 0 || !errors.Is(e, why) {
			t.Errorf("%v, not %v of %q", e, why, name)
		}
	}
	if c.Text() != before || c.Graph().Len() != nodes {
		t.Error("a refused call has changed something")
	}
}

// TestRefused: P6.2, what Graph's Add refuses, in its order.
func TestRefused(t *testing.T) {
	c := made(t, runs+"type N = int;")
	wrong := api.Type{Kind: api.TRec, Names: []string{"a"}}
	refuses(t, c, api.ErrArg, "", api.Type{})
	refuses(t, c, api.ErrArg, "", wrong)
	refuses(t, c, api.ErrArg, "", append(types(t, "int", "{embed a N;}", "X"), wrong)...)
	refuses(t, c, api.ErrNoName, "X", types(t, "X")...)
	refuses(t, c, api.ErrNoName, "Y", types(t, "{embed a N;}", "fn(A, Y) X", "X")...)
	refuses(t, c, api.ErrEmbed, "a", types(t, "A", "*{b bool; embed a N; embed c int;}")...)
	room := api.MaxTypes - c.Graph().Len()
	many := slices.Repeat(types(t, "bool"), room)
	refuses(t, c, api.ErrTooMany, "", append(slices.Clone(many), types(t, "int")...)...)
	refuses(t, c, api.ErrTooMany, "", append(types(t, "{embed a N;}"), many...)...)
	refuses(t, c, api.ErrNoName, "X", append(slices.Clone(many), types(t, "int", "X")...)...)

	// just as many as there is room for, and names beside them; again and again, as nothing is kept
	for range 3 {
		l := append(slices.Clone(many), types(t, "A", "C")...)
		numbers(t, c, l, append(slices.Repeat([]int{8}, room), 0, 3)...)
	}
	full := withs(t, c, many...)
	refuses(t, full, api.ErrTooMany, "", types(t, "int")...)
	refuses(t, full, api.ErrTooMany, "", types(t, "*A")...)
	numbers(t, full, types(t, "A", "N", "C"), 0, 1, 3)
	if full.Graph().Len() != api.MaxTypes || full.Len() != 9 {
		t.Error(full.Graph().Len(), full.Len())
	}
}

// TestAskedAhead: P6.6, a type's number does not hang on what was asked ahead, by Ids, With, or of the graphs handed out.
func TestAskedAhead(t *testing.T) {
	asked := types(t, "bool", "*bool", "{}", "**A", "{a {};}", "fn() bool", "C", "*int")
	fresh := made(t, runs)
	var want [][]int
	for _, x := range asked {
		l, err := made(t, runs).Ids(x)
		if err != nil || l[0] > 8 {
			t.Fatal(l, err)
		}
		want = append(want, l)
	}
	for i, x := range asked {
		for _, ahead := range asked {
			numbers(t, fresh, []api.Type{x}, want[i]...)
			if _, err := fresh.Ids(ahead, x); err != nil {
				t.Error(err)
			}
			add(t, withs(t, fresh, ahead).Graph(), "bool")
			add(t, fresh.Graph(), "bool", "{a text;}")
			numbers(t, fresh, []api.Type{x}, want[i]...)
		}
	}
}
