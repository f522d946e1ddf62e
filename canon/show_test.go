package canon_test

import (
	"slices"
	"strings"
	"testing"

	"coil/api"
	"coil/canon"
	"coil/graph"
	"coil/parse"
)

// runs are the definitions of the chapter's runs.
const runs = "type A = {n int; next *A;}; type B = {next *A; n int;}; type C = {n int; next *{n int; next *text;};}; "

// drawn is the graph of a text that must be taken.
func drawn(t *testing.T, src string) *graph.Graph {
	t.Helper()
	defs, methods, err := parse.Defs(src)
	if err != nil {
		t.Fatal(src, err)
	}
	g, err := graph.New(defs, methods...)
	if err != nil {
		t.Fatal(src, err)
	}
	return g
}

// built is the graph of definitions that must be taken.
func built(t *testing.T, defs ...api.Def) *graph.Graph {
	t.Helper()
	g, err := graph.New(defs)
	if err != nil {
		t.Fatal(err)
	}
	return g
}

// made are the classes of a text.
func made(t *testing.T, src string) *canon.Classes {
	t.Helper()
	return canon.New(drawn(t, src))
}

// types reads types.
func types(t *testing.T, srcs ...string) []api.Type {
	t.Helper()
	var l []api.Type
	for _, src := range srcs {
		x, err := parse.Type(src)
		if err != nil {
			t.Fatal(src, err)
		}
		l = append(l, x)
	}
	return l
}

// add adds types to a graph that must take them.
func add(t *testing.T, g *graph.Graph, srcs ...string) []int {
	t.Helper()
	nodes, err := g.Add(types(t, srcs...)...)
	if err != nil {
		t.Fatal(srcs, err)
	}
	return nodes
}

// lines are what Text says, if it says these lines.
func lines(l ...string) string {
	var b strings.Builder
	for _, s := range l {
		b.WriteString(s + "\n")
	}
	return b.String()
}

// shows fails, unless Text says these lines, and Len is how many they are.
func shows(t *testing.T, c *canon.Classes, want ...string) {
	t.Helper()
	if s := c.Text(); s != lines(want...) || c.Len() != len(want) {
		t.Errorf("%d classes: %q, not %q", c.Len(), s, lines(want...))
	}
}

// numbers fails, unless Ids and With number the types so.
func numbers(t *testing.T, c *canon.Classes, l []api.Type, want ...int) {
	t.Helper()
	ids, err := c.Ids(l...)
	if err != nil || !slices.Equal(ids, want) {
		t.Errorf("Ids: %v, %v, not %v", ids, err, want)
	}
	_, ids, err = c.With(l...)
	if err != nil || !slices.Equal(ids, want) {
		t.Errorf("With: %v, %v, not %v", ids, err, want)
	}
}

// roots fails, unless the definitions have these classes.
func roots(t *testing.T, c *canon.Classes, want map[string]int) {
	t.Helper()
	for name, class := range want {
		if n, ok := c.Root(name); n != class || !ok {
			t.Errorf("%s: %d, %v, not %d", name, n, ok, class)
		}
	}
}

// withs are the classes with these types, which must be taken.
func withs(t *testing.T, c *canon.Classes, l ...api.Type) *canon.Classes {
	t.Helper()
	more, _, err := c.With(l...)
	if err != nil {
		t.Fatal(err)
	}
	return more
}

func named(name string) api.Type { return api.Type{Kind: api.TName, Name: name} }

func pointer(t api.Type) api.Type { return api.Type{Kind: api.TPtr, Parts: []api.Type{t}} }

// record is a record of fields that are not embedded.
func record(names []string, parts ...api.Type) api.Type {
	return api.Type{Kind: api.TRec, Names: names, Embeds: make([]bool, len(names)), Parts: parts}
}

func def(name string, t api.Type) api.Def { return api.Def{Name: name, T: t} }
