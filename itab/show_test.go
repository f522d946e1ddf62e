package itab_test

import (
	"slices"
	"strconv"
	"strings"
	"testing"

	"coil/api"
	"coil/canon"
	"coil/graph"
	"coil/itab"
	"coil/parse"
	"coil/subtype"
)

// runs are the definitions of the chapter's runs.
const runs = "type I = interface {m() int;}; type J = interface {m() int; a() int;}; type A = {x int;}; method A.m() int {} type B = {embed b A;}; method B.a() int {} "

// made is the relation over a text's definitions and these types.
func made(t *testing.T, src string, types ...string) *subtype.Relation {
	t.Helper()
	defs, methods, err := parse.Defs(src)
	if err != nil {
		t.Fatal(src, err)
	}
	list := make([]api.Type, len(types))
	for i, src := range types {
		list[i] = typ(t, src)
	}
	return built(t, list, defs, methods...)
}

// built is the relation over definitions and types.
func built(t *testing.T, types []api.Type, defs []api.Def, methods ...api.Code) *subtype.Relation {
	t.Helper()
	g, err := graph.New(defs, methods...)
	if err != nil {
		t.Fatal(err)
	}
	if _, err := g.Add(types...); err != nil {
		t.Fatal(err)
	}
	return subtype.New(canon.New(g))
}

func typ(t *testing.T, src string) api.Type {
	t.Helper()
	x, err := parse.Type(src)
	if err != nil {
		t.Fatal(src, err)
	}
	return x
}

// at is the class of a type that the relation has.
func at(t *testing.T, r *subtype.Relation, src string) int {
	t.Helper()
	ids, err := r.Ids(typ(t, src))
	if err != nil || ids[0] >= r.Len() {
		t.Fatal(src, ids, err)
	}
	return ids[0]
}

// pair is the classes of two types, `TYPE < TYPE`.
func pair(t *testing.T, r *subtype.Relation, src string) [2]int {
	t.Helper()
	class, iface, _ := strings.Cut(src, " < ")
	return [2]int{at(t, r, class), at(t, r, iface)}
}

// show tells a row: its name, what it is, by which path.
func show(m api.Member) string {
	s := m.Name + ": " + map[int]string{api.MField: "field", api.MMethod: "method of " + m.Owner, api.MIface: "iface" + m.Owner}[m.Kind]
	if len(m.Path) > 0 {
		s += " by " + strings.Join(m.Path, " ")
	}
	return s
}

// list tells rows.
func list(rows []api.Member) string {
	var l []string
	for _, m := range rows {
		l = append(l, show(m))
	}
	return strings.Join(l, "; ")
}

// builds fails, unless Build says these rows of a pair: `TYPE < TYPE`.
func builds(t *testing.T, r *subtype.Relation, src, rows string) {
	t.Helper()
	p := pair(t, r, src)
	got, why := itab.Build(r, p[0], p[1])
	if list(got.Rows) != rows || got.Class != p[0] || got.Iface != p[1] || why != api.OK {
		t.Errorf("%s: %s, %+v, %v, not %s", src, list(got.Rows), got, why, rows)
	}
}

// refuses fails, unless Build refuses each pair so.
func refuses(t *testing.T, r *subtype.Relation, want api.Errno, pairs ...string) {
	t.Helper()
	for _, src := range pairs {
		p := pair(t, r, src)
		if got, why := itab.Build(r, p[0], p[1]); !isZero(got) || why != want {
			t.Errorf("%s: %+v, %v, not %v", src, got, why, want)
		}
	}
}

func isZero(x itab.Table) bool { return x.Class == 0 && x.Iface == 0 && len(x.Rows) == 0 }

func isNone(m api.Member) bool { return show(m) == ": " && m.Node == 0 }

// opened is an empty cache of a relation.
func opened(t *testing.T, r *subtype.Relation, most int) *itab.Cache {
	t.Helper()
	c, why := itab.New(r, most)
	if c == nil || why != api.OK {
		t.Fatal(c, why)
	}
	return c
}

// gets asks for each pair, and fails, unless it is answered as Build answers.
func gets(t *testing.T, c *itab.Cache, pairs ...string) {
	t.Helper()
	for _, src := range pairs {
		p := pair(t, c.Relation, src)
		got, why := c.Get(p[0], p[1])
		want, e := itab.Build(subtype.New(c.Classes()), p[0], p[1])
		if !itab.Same(got, want) || why != e {
			t.Errorf("%s: %+v, %v, not %+v, %v", src, got, why, want, e)
		}
	}
}

// row asks for a row, and fails, unless it is told so: as show tells it, or by its error.
func row(t *testing.T, c *itab.Cache, src string, method int, want string) {
	t.Helper()
	p := pair(t, c.Relation, src)
	m, why := c.Row(p[0], p[1], method)
	got := show(m)
	if why != api.OK {
		got = strconv.Itoa(int(why))
	}
	if got != want || why != api.OK && !isNone(m) {
		t.Errorf("%s %d: %s, %+v, %v, not %s", src, method, got, m, why, want)
	}
}

// keeps fails, unless the cache keeps just these pairs, in their order, and has counted so many.
func keeps(t *testing.T, c *itab.Cache, builds, lookups int, pairs ...string) {
	t.Helper()
	var want [][2]int
	for _, src := range pairs {
		want = append(want, pair(t, c.Relation, src))
	}
	if got := c.Held(); !slices.Equal(got, want) || c.Len() != len(want) {
		t.Errorf("%v, %d, not %v", got, c.Len(), pairs)
	}
	if c.Builds() != builds || c.Lookups() != lookups {
		t.Errorf("%d builds, %d lookups, not %d, %d", c.Builds(), c.Lookups(), builds, lookups)
	}
}

func named(name string) api.Type { return api.Type{Kind: api.TName, Name: name} }

func pointer(t api.Type) api.Type { return api.Type{Kind: api.TPtr, Parts: []api.Type{t}} }

func function(parts ...api.Type) api.Type { return api.Type{Kind: api.TFn, Parts: parts} }

func def(name string, t api.Type) api.Def { return api.Def{Name: name, T: t} }

func key(name string, n int) string { return name + strconv.Itoa(10000+n) }
