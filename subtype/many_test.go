package subtype_test

import (
	"slices"
	"testing"

	"coil/api"
	"coil/canon"
	"coil/subtype"
)

var number = api.Type{Kind: api.TInt}

// record has these fields, of which none or all are embedded.
func record(embedded bool, names []string, parts ...api.Type) api.Type {
	return api.Type{Kind: api.TRec, Names: names, Embeds: slices.Repeat([]bool{embedded}, len(names)), Parts: parts}
}

// iface has these methods, each without parameters and with that result.
func iface(result api.Type, names ...string) api.Type {
	t := api.Type{Kind: api.TIface, Names: names}
	for range names {
		t.Parts = append(t.Parts, api.Type{Kind: api.TFn, Parts: []api.Type{result}})
	}
	return t
}

// root is the class of a definition.
func root(t *testing.T, c *canon.Classes, name string) int {
	t.Helper()
	class, ok := c.Root(name)
	if !ok {
		t.Fatal(name)
	}
	return class
}

// TestChain: P8.1 and P8.2 of as many classes as there can be.
func TestChain(t *testing.T) {
	const n = api.MaxTypes/2 - 1
	var defs []api.Def
	for i := range n {
		defs = append(defs, def(key("R", i), record(false, []string{"next"}, pointer(named(key("R", i+1))))))
	}
	defs = append(defs, def(key("R", n), record(false, []string{"x"}, number)))
	r := subtype.New(built(t, defs))
	if r.Len() != api.MaxTypes {
		t.Fatal(r.Len())
	}
	for a, row := range r.All() {
		for b, ok := range row {
			if ok != (a == b) {
				t.Fatal(a, b, ok)
			}
		}
	}
	for _, x := range [][2]int{{0, 1}, {1, 0}, {0, n}, {n, 0}, {n - 1, n - 2}, {7, 300}} {
		steps, ok := r.Why(root(t, r.Classes(), key("R", x[0])), root(t, r.Classes(), key("R", x[1])))
		if !ok || len(steps) != 2*(n-max(x[0], x[1])) {
			t.Error(x, len(steps), ok)
		}
	}
}

// TestRings: P8.2 where the least way is as long as two rings can make it: they fail only where both are at their beginning.
func TestRings(t *testing.T) {
	const p, q = 500, 501
	defs := []api.Def{def("T", iface(number)), def("I", iface(number, "m")), def("J", iface(number, "m", "n"))}
	ring := func(name string, n int, first, other string) {
		for i := range n {
			mark := other
			if i == 0 {
				mark = first
			}
			defs = append(defs, def(key(name, i), record(false, []string{"a", "v"}, named(key(name, (i+1)%n)), named(mark))))
		}
	}
	ring("P", p, "T", "J")
	ring("Q", q, "I", "T")
	r := subtype.New(built(t, defs))
	for _, x := range [][3]int{{1, 1, p*q - 1}, {0, 0, 0}, {p - 1, q - 1, 1}, {0, 1, p}, {1, 0, p*q - q}, {p - 3, q - 3, 3}} {
		steps, ok := r.Why(root(t, r.Classes(), key("P", x[0])), root(t, r.Classes(), key("Q", x[1])))
		if !ok || len(steps) != x[2]+1 || steps[x[2]] != (api.Step{Name: "v", N: 1}) || slices.ContainsFunc(steps[:x[2]], func(s api.Step) bool { return s != api.Step{Name: "a"} }) {
			t.Error(x, len(steps), ok)
		}
	}
	defs[1].T = iface(number) // now nothing fails
	r = subtype.New(built(t, defs))
	if ok, why := r.Below(root(t, r.Classes(), key("P", 1)), root(t, r.Classes(), key("Q", 1))); !ok || why != api.OK {
		t.Error(ok, why)
	}
}

// TestWide: P8.1 and P8.2 of records with very many fields, whose premises are the same or nearly so.
func TestWide(t *testing.T) {
	const n, fields = 12, 5000
	var names []string
	for k := range fields {
		names = append(names, key("f", k))
	}
	var defs []api.Def
	for i := range n {
		parts := slices.Repeat([]api.Type{named(key("R", (i+1)%n))}, fields)
		if i > 0 {
			parts[fields-1] = named("T")
		} else {
			parts[fields-1] = number
		}
		defs = append(defs, def(key("R", i), record(false, names, parts...)))
	}
	r := subtype.New(built(t, append(defs, def("T", iface(number)))))
	first := root(t, r.Classes(), key("R", 0))
	for i := range n {
		class := root(t, r.Classes(), key("R", i))
		if rule, ok := r.Rule(first, class); len(rule) != fields || !ok {
			t.Error(i, len(rule), ok)
		}
		// R0 < Ri asks T < int when Ri's ring comes to R0
		var want []api.Step
		if i > 0 {
			want = append(slices.Repeat([]api.Step{{Name: names[0]}}, n-i), api.Step{Name: names[fields-1], N: fields - 1})
		}
		if steps, ok := r.Why(first, class); !slices.Equal(steps, want) || ok != (i > 0) {
			t.Error(i, len(steps), ok)
		}
	}
}

// TestManyMethods: P8.1 of interfaces with many methods, which are found by many embedded fields.
func TestManyMethods(t *testing.T) {
	const n, depth = 300, 300
	var names []string
	for k := range n {
		names = append(names, key("m", k))
	}
	defs := []api.Def{def("I", iface(named("I"), names...)), def("J", iface(named("J"), names[:n-1]...)), def("K", iface(number, names[n-1]))}
	for i := range depth {
		next := named(key("R", i+1))
		if i == depth-1 {
			next = pointer(named(key("R", i+1)))
		}
		defs = append(defs, def(key("R", i), record(true, []string{key("e", i)}, next)))
	}
	defs = append(defs, def(key("R", depth), record(true, []string{"j", "k"}, named("J"), named("K"))))
	r := subtype.New(built(t, defs))
	all := r.All()
	i, j, k := root(t, r.Classes(), "I"), root(t, r.Classes(), "J"), root(t, r.Classes(), "K")
	for x := range depth + 1 {
		class := root(t, r.Classes(), key("R", x))
		if all[class][i] || !all[class][j] || !all[class][k] {
			t.Fatal(x, all[class][i], all[class][j], all[class][k])
		}
		if steps, ok := r.Why(class, i); !slices.Equal(steps, []api.Step{{Name: names[0]}, {}}) || !ok {
			t.Fatal(x, steps, ok)
		}
	}
	if !all[i][j] || all[j][i] || all[i][k] || all[k][i] {
		t.Error(all[i][j], all[j][i], all[i][k], all[k][i])
	}
}

// TestOneByOne: P8.3, many questions of types, each alone, over a large set in which nearly each pair leads to each.
func TestOneByOne(t *testing.T) {
	const n = 500
	var defs []api.Def
	for i := range n {
		defs = append(defs, def(key("R", i), api.Type{Kind: api.TFn, Parts: []api.Type{named(key("R", (i*7+3)%n)), named(key("R", (i*i+1)%n)), pointer(named(key("R", (i*3+3)%n)))}}))
	}
	defs[17].T = number
	c := built(t, defs)
	r := subtype.New(c)
	for i := range 100 {
		a, b := key("R", i), key("R", i*31%n)
		want, _ := r.Below(root(t, c, a), root(t, c, b))
		if ok, err := subtype.Below(c, named(a), named(b)); ok != want || err != nil {
			t.Error(a, b, ok, err)
		}
	}
}
