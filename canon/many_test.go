package canon_test

import (
	"slices"
	"strconv"
	"testing"

	"coil/api"
	"coil/canon"
	"coil/graph"
)

// same fails, unless each node's class is the one with that number.
func same(t *testing.T, g *graph.Graph, classes int, class func(node int) int) {
	t.Helper()
	c := canon.New(g)
	if c.Len() != classes {
		t.Errorf("%d classes, not %d", c.Len(), classes)
	}
	for n := range g.Len() {
		if k, ok := c.Of(n); k != class(n) || !ok {
			t.Fatalf("%d: %d, %v, not %d", n, k, ok, class(n))
		}
	}
}

// key is a name of a definition; names are in the order of the numbers.
func key(name string, n int) string { return name + strconv.Itoa(100000+n) }

// TestChain: P6.1 of MaxTypes nodes, all of different trees.
func TestChain(t *testing.T) {
	const n = api.MaxTypes
	var defs []api.Def
	for i := range n - 1 {
		defs = append(defs, def(key("P", i), pointer(named(key("P", i+1)))))
	}
	defs = append(defs, def(key("P", n-1), api.Type{Kind: api.TInt}))
	same(t, built(t, defs...), n, func(node int) int { return node })
	slices.Reverse(defs)
	same(t, built(t, defs...), n, func(node int) int { return n - 1 - node })
	c := canon.New(built(t, defs...))
	numbers(t, c, []api.Type{named(key("P", 3)), named(key("P", n-1))}, 3, n-1)
	refuses(t, c, api.ErrTooMany, "", api.Type{Kind: api.TInt})
}

// ring are definitions that come back to the first one, each a record with a field a; those of these numbers have it
// embedded.
func ring(name string, n int, marked ...int) []api.Def {
	var defs []api.Def
	for i := range n {
		t := record([]string{"a"}, named(key(name, (i+1)%n)))
		t.Embeds[0] = slices.Contains(marked, i)
		defs = append(defs, def(key(name, i), t))
	}
	return defs
}

// TestRings: P6.1 and P6.4 of MaxTypes nodes and fewer, in rings.
func TestRings(t *testing.T) {
	one := func(int) int { return 0 }
	same(t, built(t, ring("A", api.MaxTypes)...), 1, one)
	same(t, built(t, slices.Concat(ring("A", 501), ring("B", 523))...), 1, one)

	// one that is marked: all trees differ; in a second ring of another length as well
	self := func(node int) int { return node }
	same(t, built(t, ring("A", api.MaxTypes, 7)...), api.MaxTypes, self)
	same(t, built(t, slices.Concat(ring("A", 501, 500), ring("B", 523, 522))...), api.MaxTypes, self)

	// marks that come back: as many trees as lie between them
	marked := func(n int) []int {
		var l []int
		for i := 3; i < n; i += 8 {
			l = append(l, i)
		}
		return l
	}
	same(t, built(t, slices.Concat(ring("A", 512, marked(512)...), ring("B", 8, 3), ring("C", 504, marked(504)...))...), 8,
		func(node int) int { return node % 8 })

	// one mark is missing: its ring differs from the other ones everywhere
	less := marked(512)
	g := built(t, slices.Concat(ring("A", 512, marked(512)...), ring("B", 512, less[1:]...))...)
	same(t, g, 8+512, func(node int) int {
		if node < 512 {
			return node % 8
		}
		return node - 512 + 8
	})
}

// TestLadders: P6.1 of MaxTypes nodes, with very many paths to each.
func TestLadders(t *testing.T) {
	half := api.MaxTypes / 2
	ladder := func(name string, end int) []api.Def {
		var defs []api.Def
		for i := range half - 1 {
			next := named(key(name, i+1))
			defs = append(defs, def(key(name, i), record([]string{"y", "x"}, next, next)))
		}
		return append(defs, def(key(name, half-1), api.Type{Kind: end}))
	}
	g := built(t, slices.Concat(ladder("A", api.TInt), ladder("B", api.TInt))...)
	same(t, g, half, func(node int) int { return node % half })
	g = built(t, slices.Concat(ladder("A", api.TInt), ladder("B", api.TBool))...)
	same(t, g, api.MaxTypes, func(node int) int { return node })
}

// wide are that many names, sorted.
func wide(n int) []string {
	var names []string
	for i := range n {
		names = append(names, key("f", i))
	}
	return names
}

// TestWide: P6.1 of records with very many fields, each of which leads to the next one; if the last one is marked, its last
// field leads elsewhere, and all trees differ.
func TestWide(t *testing.T) {
	const nodes, fields = 1000, 400
	names := wide(fields)
	row := func(marked bool) *graph.Graph {
		defs := []api.Def{def("Z", api.Type{Kind: api.TInt})}
		for i := range nodes {
			parts := slices.Repeat([]api.Type{named(key("A", (i+1)%nodes))}, fields)
			if marked && i == nodes-1 {
				parts[fields-1] = named("Z")
			}
			defs = append(defs, def(key("A", i), record(names, parts...)))
		}
		return built(t, defs...)
	}
	same(t, row(false), 2, func(node int) int {
		if node == 0 {
			return 1
		}
		return 0
	})
	g := row(true)
	same(t, g, nodes+1, func(node int) int {
		if node == 0 {
			return nodes
		}
		return node - 1
	})
	c := canon.New(g)
	if l := c.Children(nodes - 1); len(l) != fields || l[0] != 0 || l[fields-1] != nodes {
		t.Error(len(l))
	}
	numbers(t, c, []api.Type{named("Z"), pointer(named("Z"))}, nodes, nodes+1)
}

// TestAddedMany: P6.1 and P6.2 of MaxTypes nodes that are added, one behind the other and at once.
func TestAddedMany(t *testing.T) {
	c := made(t, "type A = {x int;};")
	l := types(t, "{x int;}", "*A", "fn(A, {x int;}) bool")
	more := c
	for range 40 {
		more = withs(t, more, l...)
	}
	shows(t, more, "0 record x 1", "1 int", "2 * 0", "3 fn 3 0 0 4", "4 bool")
	many := slices.Repeat(l, (api.MaxTypes-2)/7)
	full := withs(t, c, many...)
	shows(t, full, "0 record x 1", "1 int", "2 * 0", "3 fn 3 0 0 4", "4 bool")
	numbers(t, c, many, slices.Repeat([]int{0, 2, 3}, len(many)/3)...)
	deep := named("A")
	for range api.MaxNest - 1 {
		deep = pointer(deep)
	}
	numbers(t, c, []api.Type{deep, pointer(named("A")), named("A")}, 2, 2+api.MaxNest-2, 0)
}
