package unfold

import (
	"slices"
	"strconv"
	"strings"

	"coil/api"
	"coil/graph"
)

// child is a child of a node, with what its label says of it.
type child struct {
	name     string // none of a pointer's and a function's
	embedded bool
	node     int
}

// step is the step to the child, if it is the child of that number.
func (c child) step(n int) api.Step { return api.Step{Name: c.name, N: n} }

// text is what the label says of the child.
func (c child) text() string {
	if c.embedded {
		return "+" + c.name
	}
	return c.name
}

// tree is a node's tree as far as its children.
type tree struct {
	label    string
	children []child
}

// trees are those of a graph's nodes. One to which a call comes again is not worked out again: its names may be many, and
// so may the paths to it.
type trees struct {
	graph *graph.Graph
	known map[int]tree
}

func treesOf(g *graph.Graph) trees { return trees{graph: g, known: map[int]tree{}} }

// at is the tree of a node that there is.
func (t trees) at(node int) tree {
	known, ok := t.known[node]
	if !ok {
		children := childrenOf(t.graph, node)
		known = tree{label: labelOf(t.graph, node, children), children: children}
		t.known[node] = known
	}
	return known
}

func childrenOf(g *graph.Graph, node int) []child {
	parts, names, embeds := g.Parts(node), g.Names(node), g.Embeds(node)
	children := make([]child, len(parts))
	for i, p := range parts {
		children[i].node = p
		if i < len(names) {
			children[i].name = names[i]
		}
		if i < len(embeds) {
			children[i].embedded = embeds[i]
		}
	}
	// Stable, so that those without names stay in their order.
	slices.SortStableFunc(children, func(a, b child) int { return strings.Compare(a.name, b.name) })
	return children
}

func labelOf(g *graph.Graph, node int, children []child) string {
	kind := g.Kind(node)
	words := []string{kindWord(kind)}
	if owner := g.Owner(node); owner != "" {
		words = append(words, "of", owner)
	}
	switch kind {
	case api.TFn:
		words = append(words, strconv.Itoa(len(children)))
	case api.TRec, api.TIface:
		for _, c := range children {
			words = append(words, c.text())
		}
	}
	return strings.Join(words, " ")
}

// kindWord is the word with which a label of that kind begins.
func kindWord(kind int) string {
	switch kind {
	case api.TInt:
		return "int"
	case api.TBool:
		return "bool"
	case api.TText:
		return "text"
	case api.TPtr:
		return "*"
	case api.TFn:
		return "fn"
	case api.TIface:
		return "interface"
	}
	return "record"
}

// writer writes trees one behind the other, as long as they are not too long.
type writer struct {
	strings.Builder
	trees trees
}

func (w *writer) tooLong() bool { return w.Len() > api.MaxText }

// write writes the node's tree down to depth, which is 1 at least. It stops when the text is too long: that of a tree with
// many children would else have no end to speak of.
func (w *writer) write(node, depth int) {
	t := w.trees.at(node)
	w.WriteString(t.label)
	if depth == 1 || len(t.children) == 0 {
		return
	}
	ahead := "("
	for _, c := range t.children {
		if w.tooLong() {
			return
		}
		w.WriteString(ahead)
		w.write(c.node, depth-1)
		ahead = ", "
	}
	w.WriteString(")")
}
