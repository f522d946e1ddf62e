package member_test

import (
	"slices"
	"testing"

	"coil/api"
	"coil/canon"
	"coil/member"
)

var number = api.Type{Kind: api.TInt}

// root is the class of a definition.
func root(t *testing.T, c *canon.Classes, name string) int {
	t.Helper()
	class, ok := c.Root(name)
	if !ok {
		t.Fatal(name)
	}
	return class
}

// deep fails, unless Depths says that count at that depth, and 0 ahead of it.
func deep(t *testing.T, c *canon.Classes, class int, name string, depth, count int) {
	t.Helper()
	want := append(make([]int, depth), count)
	if l := member.Depths(c, class, name); !slices.Equal(l, want) {
		t.Errorf("%s: %v, not %d noughts and %d", name, l, depth, count)
	}
}

// TestChain: P7.1 to P7.3 of as many depths as there can be.
func TestChain(t *testing.T) {
	const n = api.MaxTypes - 2
	var defs []api.Def
	var path []string
	for i := range n {
		defs = append(defs, def(key("R", i), record(field{key("e", i), true, named(key("R", i+1))})))
		path = append(path, key("e", i))
	}
	defs = append(defs, def(key("R", n), record(field{"x", false, number})))
	c := built(t, defs)
	first := root(t, c, key("R", 0))
	m, why := member.Lookup(c, first, "x")
	if why != api.OK || m.Kind != api.MField || !slices.Equal(m.Path, path) {
		t.Error(why, m.Kind, len(m.Path))
	}
	deep(t, c, first, "x", n, 1)
	if got := find(t, c, first, "z"); got != "none" {
		t.Error(got)
	}
	all := member.All(c, first)
	if len(all) != n+1 || len(member.Methods(c, first)) != 0 {
		t.Fatal(len(all))
	}
	for i, m := range all {
		if !slices.Equal(m.Path, path[:i]) || i < n && m.Name != path[i] {
			t.Error(i, m.Name, len(m.Path))
		}
	}
}

// TestLadder: P7.1 to P7.3 where the paths are far too many to be counted one by one.
func TestLadder(t *testing.T) {
	const n = api.MaxTypes/2 - 2
	var defs []api.Def
	for i := range n {
		next := named(key("R", i+1))
		defs = append(defs, def(key("R", i), record(field{key("a", i), true, next}, field{key("b", i), true, pointer(next)}, field{key("c", i), true, next})))
	}
	defs = append(defs, def(key("R", n), record(field{"x", false, number}, field{"back", true, pointer(named(key("R", 0)))})))
	c := built(t, defs)
	first := root(t, c, key("R", 0))
	deep(t, c, first, "x", n, 2)
	deep(t, c, first, key("b", n-1), n-1, 2)
	deep(t, c, first, key("b", 0), 0, 1)
	for name, want := range map[string]string{"x": "ambiguous", "back": "ambiguous", key("a", 1): "ambiguous", "z": "none"} {
		if got := find(t, c, first, name); got != want {
			t.Error(name, got, want)
		}
	}
	if all := member.All(c, first); len(all) != 3 {
		t.Error(len(all))
	}
	last := root(t, c, key("R", n-1))
	if all := member.All(c, last); len(all) != 3 {
		t.Error(len(all))
	}
	end := root(t, c, key("R", n)) // it goes round once, by one path up to the first
	deep(t, c, end, key("a", 0), 1, 1)
	deep(t, c, end, key("a", 1), 2, 2)
	if all := member.All(c, end); len(all) != 5 {
		t.Error(len(all))
	}
}

// TestRing: P7.5 of a ring of pointers, marked so that no two of its records are one class.
func TestRing(t *testing.T) {
	const n = api.MaxTypes/2 - 1
	var defs []api.Def
	for i := range n {
		fields := []field{{"next", true, pointer(named(key("R", (i+1)%n)))}}
		if i == n-1 {
			fields = append(fields, field{"x", false, number})
		}
		defs = append(defs, def(key("R", i), record(fields...)))
	}
	c := built(t, defs)
	for i := range n {
		class := root(t, c, key("R", i))
		deep(t, c, class, "x", n-1-i, 1)
		if l := member.Depths(c, class, "z"); len(l) != 0 {
			t.Error(l)
		}
		if m, why := member.Lookup(c, class, "x"); why != api.OK || len(m.Path) != n-1-i {
			t.Error(i, why, len(m.Path))
		}
	}
	for i := range n { // a ring without a mark is one class
		defs[i].T = record(field{"next", true, pointer(named(key("R", (i+1)%n)))})
	}
	c = built(t, defs)
	if got := find(t, c, root(t, c, key("R", 5)), "x"); got != "none" || c.Len() != 2 {
		t.Error(got, c.Len())
	}
}

// TestAllToAll: P7.5 where each record embeds a pointer to each.
func TestAllToAll(t *testing.T) {
	const n = 150
	var defs []api.Def
	for i := range n {
		fields := []field{{key("x", i), false, number}}
		for k := range n {
			fields = append(fields, field{key("e", k), true, named(key("P", k))})
		}
		defs = append(defs, def(key("R", i), record(fields...)), def(key("P", i), pointer(named(key("R", i)))))
	}
	c := built(t, defs)
	class := root(t, c, key("R", 7))
	for k := range n {
		depth, path := 1, []string{key("e", k)}
		if k == 7 {
			depth, path = 0, nil
		}
		if m, why := member.Lookup(c, class, key("x", k)); why != api.OK || !slices.Equal(m.Path, path) {
			t.Error(k, why, m)
		}
		deep(t, c, class, key("x", k), depth, 1)
	}
	if all := member.All(c, class); len(all) != 2*n {
		t.Error(len(all))
	}
	if got := find(t, c, class, "z"); got != "none" {
		t.Error(got)
	}
}

// TestWide: P7.1 to P7.3 of a record with very many embedded fields that lead to one record, and of one with one of them.
func TestWide(t *testing.T) {
	const n = 5000
	defs := []api.Def{def("A", record(field{"x", false, number}))}
	var many []field
	for i := range n {
		many = append(many, field{key("e", i), true, named("A")})
	}
	defs = append(defs, def("B", record(many...)), def("C", record(append(many[:1:1], field{"b", true, named("B")})...)))
	c := built(t, defs)
	deep(t, c, root(t, c, "B"), "x", 1, 2)
	deep(t, c, root(t, c, "C"), "x", 1, 1)
	if got := find(t, c, root(t, c, "B"), "x"); got != "ambiguous" {
		t.Error(got)
	}
	if got := find(t, c, root(t, c, "C"), "x"); got != "field x int by "+key("e", 0) {
		t.Error(got)
	}
	if all := member.All(c, root(t, c, "B")); len(all) != n {
		t.Error(len(all))
	}
	if all := member.All(c, root(t, c, "C")); len(all) != n+2 {
		t.Error(len(all))
	}
}
