package unfold_test

import (
	"strconv"
	"strings"
	"testing"

	"coil/api"
	"coil/graph"
	"coil/parse"
	"coil/unfold"
)

// drawn is a graph whose nodes are named by types.
type drawn struct {
	*graph.Graph
	t *testing.T
}

// made is the graph of a text that must be taken.
func made(t *testing.T, src string) drawn {
	t.Helper()
	defs, methods, err := parse.Defs(src)
	if err != nil {
		t.Fatal(src, err)
	}
	g, err := graph.New(defs, methods...)
	if err != nil {
		t.Fatal(src, err)
	}
	return drawn{g, t}
}

// of is the node of a type.
func (d drawn) of(src string) int {
	d.t.Helper()
	x, err := parse.Type(src)
	if err != nil {
		d.t.Fatal(src, err)
	}
	l, err := d.Add(x)
	if err != nil {
		d.t.Fatal(src, err)
	}
	return l[0]
}

// built is the graph of definitions that must be taken.
func built(t *testing.T, defs ...api.Def) drawn {
	t.Helper()
	g, err := graph.New(defs)
	if err != nil {
		t.Fatal(err)
	}
	return drawn{g, t}
}

// steps reads a path: "next 1, 0".
func steps(src string) []api.Step {
	var l []api.Step
	for _, s := range strings.Split(src, ",") {
		words := strings.Fields(s)
		if len(words) == 0 {
			continue
		}
		n, err := strconv.Atoi(words[len(words)-1])
		if err != nil {
			panic(src)
		}
		l = append(l, api.Step{Name: strings.Join(words[:len(words)-1], " "), N: n})
	}
	return l
}

// shown writes a path so.
func shown(path []api.Step) string {
	var l []string
	for _, s := range path {
		l = append(l, strings.TrimSpace(s.Name+" "+strconv.Itoa(s.N)))
	}
	return strings.Join(l, ", ")
}

// differs fails, unless Differ answers that path, both ways round, and Follow comes by it to nodes of other labels.
func (d drawn) differs(a, b int, want string) {
	d.t.Helper()
	for _, x := range [][2]int{{a, b}, {b, a}} {
		path, ok := unfold.Differ(d.Graph, x[0], x[1])
		if !ok || shown(path) != want {
			d.t.Errorf("%d and %d differ at %q, %v, not %q", x[0], x[1], shown(path), ok, want)
		}
	}
	path := steps(want)
	for i := range len(path) + 1 {
		x, okX := unfold.Follow(d.Graph, a, path[:i]...)
		y, okY := unfold.Follow(d.Graph, b, path[:i]...)
		if same := unfold.Label(d.Graph, x) == unfold.Label(d.Graph, y); !okX || !okY || same != (i < len(path)) {
			d.t.Errorf("%d and %d at %q: %d, %d", a, b, shown(path[:i]), x, y)
		}
	}
}

// agrees fails, unless Differ finds nothing, both ways round.
func (d drawn) agrees(a, b int) {
	d.t.Helper()
	for _, x := range [][2]int{{a, b}, {b, a}} {
		if path, ok := unfold.Differ(d.Graph, x[0], x[1]); ok || len(path) != 0 {
			d.t.Errorf("%d and %d differ at %q, %v", x[0], x[1], shown(path), ok)
		}
	}
}

func named(name string) api.Type { return api.Type{Kind: api.TName, Name: name} }

// record is a record of fields that are not embedded.
func record(names []string, parts ...api.Type) api.Type {
	return api.Type{Kind: api.TRec, Names: names, Embeds: make([]bool, len(names)), Parts: parts}
}

func pointer(t api.Type) api.Type { return api.Type{Kind: api.TPtr, Parts: []api.Type{t}} }

func def(name string, t api.Type) api.Def { return api.Def{Name: name, T: t} }
