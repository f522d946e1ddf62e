package graph_test

import (
	"errors"
	"strconv"
	"strings"
	"testing"

	"coil/api"
	"coil/graph"
	"coil/parse"
)

func read(t *testing.T, src string) ([]api.Def, []api.Code) {
	t.Helper()
	defs, methods, err := parse.Defs(src)
	if err != nil {
		t.Fatal(src, err)
	}
	return defs, methods
}

// made is the graph of a text that must be taken.
func made(t *testing.T, src string) *graph.Graph {
	t.Helper()
	defs, methods := read(t, src)
	g, err := graph.New(defs, methods...)
	if err != nil || g == nil {
		t.Fatal(src, err)
	}
	return g
}

func typ(t *testing.T, src string) api.Type {
	t.Helper()
	x, err := parse.Type(src)
	if err != nil {
		t.Fatal(src, err)
	}
	return x
}

func types(t *testing.T, srcs ...string) []api.Type {
	t.Helper()
	var l []api.Type
	for _, s := range srcs {
		l = append(l, typ(t, s))
	}
	return l
}

// add adds types that must be taken.
func add(t *testing.T, g *graph.Graph, srcs ...string) []int {
	t.Helper()
	l, err := g.Add(types(t, srcs...)...)
	if err != nil || len(l) != len(srcs) {
		t.Fatal(srcs, l, err)
	}
	return l
}

var kinds = [...]string{"?", "int", "bool", "text", "name", "*", "rec", "fn", "iface"}

// showNode tells all that a graph says of a node: "rec A x=1 +b=2 .".
func showNode(g *graph.Graph, n int) string {
	kind := g.Kind(n)
	if kind < 0 || kind >= len(kinds) {
		kind = 0
	}
	words := []string{kinds[kind]}
	if s := g.Owner(n); s != "" {
		words = append(words, "of", s)
	}
	parts, names, embeds := g.Parts(n), g.Names(n), g.Embeds(n)
	for i, p := range parts {
		word := strconv.Itoa(p)
		if i < len(names) {
			word = names[i] + "=" + word
		}
		if i < len(embeds) && embeds[i] {
			word = "+" + word
		}
		words = append(words, word)
	}
	if len(names) > len(parts) || len(embeds) > len(parts) || g.Kind(n) == api.TRec && len(embeds) != len(names) {
		words = append(words, "wrong lists")
	}
	if g.Kind(n) != api.TRec && len(embeds) > 0 || g.Kind(n) != api.TRec && g.Kind(n) != api.TIface && len(names) > 0 {
		words = append(words, "wrong names")
	}
	return strings.Join(words, " ")
}

// show tells all nodes of a graph.
func show(g *graph.Graph) string {
	var l []string
	for n := range g.Len() {
		l = append(l, showNode(g, n))
	}
	return strings.Join(l, "; ")
}

// showNames tells all definitions and methods of a graph.
func showNames(g *graph.Graph) string {
	var l []string
	for _, name := range g.Roots() {
		n, ok := g.Root(name)
		if !ok {
			l = append(l, "no root")
		}
		l = append(l, name+"="+strconv.Itoa(n))
		for _, m := range g.Methods(name) {
			n, ok := g.Method(name, m)
			if !ok {
				l = append(l, "no method")
			}
			l = append(l, name+"."+m+"="+strconv.Itoa(n))
		}
	}
	return strings.Join(l, " ")
}

func shows(t *testing.T, g *graph.Graph, nodes, names string) {
	t.Helper()
	if got := show(g); got != nodes {
		t.Errorf("nodes: %q, not %q", got, nodes)
	}
	if got := showNames(g); got != names {
		t.Errorf("names: %q, not %q", got, names)
	}
}

// refusal is what a *Refusal says, as a value.
type refusal struct {
	why  api.Errno
	at   int
	name string
}

// told answers what err says; the zero refusal, if it is none.
func told(t *testing.T, err error) refusal {
	t.Helper()
	if err == nil {
		return refusal{}
	}
	r, ok := err.(*graph.Refusal)
	if !ok || r == nil {
		t.Fatalf("%v is no *Refusal", err)
	}
	if r.At != r.Where() || r.Unwrap() != error(r.Why) || !errors.Is(err, r.Why) || r.Error() == "" || r.Why == api.OK {
		t.Errorf("%#v: %q", r, r.Error())
	}
	return refusal{r.Why, r.Where(), r.Name}
}

// refuses fails, unless New refuses with that, and with no graph beside it.
func refuses(t *testing.T, want refusal, defs []api.Def, methods ...api.Code) {
	t.Helper()
	g, err := graph.New(defs, methods...)
	if got := told(t, err); g != nil || got != want {
		t.Errorf("%v, not %v", got, want)
	}
}

// refusesText does so of a text.
func refusesText(t *testing.T, src string, why api.Errno, at int, name string) {
	t.Helper()
	defs, methods := read(t, src)
	g, err := graph.New(defs, methods...)
	if got := told(t, err); g != nil || got != (refusal{why, at, name}) {
		t.Errorf("%s: %v, not %v", src, got, refusal{why, at, name})
	}
}

// refusesAdd fails, unless Add refuses with that, has no nodes beside it, and leaves the graph as it is.
func refusesAdd(t *testing.T, g *graph.Graph, why api.Errno, name string, types ...api.Type) {
	t.Helper()
	nodes, names := show(g), showNames(g)
	l, err := g.Add(types...)
	if got := told(t, err); len(l) != 0 || got != (refusal{why, 0, name}) {
		t.Errorf("%v, %v, not %v", l, got, refusal{why, 0, name})
	}
	shows(t, g, nodes, names)
}
