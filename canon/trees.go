package canon

import (
	"strconv"
	"strings"

	"coil/graph"
	"coil/unfold"
)

// common is what a class of each kind has, and a node too: the children are of the same sort.
type common struct {
	label    string
	children []int
}

// write writes the label and the children, a blank ahead of each.
func (c common) write(b *strings.Builder) {
	b.WriteByte(' ')
	b.WriteString(c.label)
	for _, child := range c.children {
		b.WriteByte(' ')
		b.WriteString(strconv.Itoa(child))
	}
}

// class is what the nodes of one tree have in common.
type class struct {
	common
	node int // the least one
}

// tree is a node's tree as far as its children.
type tree struct {
	common
	methods []int // of a record with an owner: the nodes of its methods' signatures, by their names
}

func treesOf(g *graph.Graph) []tree {
	trees := make([]tree, g.Len())
	for n := range trees {
		trees[n].common = common{label: unfold.Label(g, n), children: unfold.Children(g, n)}
		owner := g.Owner(n)
		for _, name := range g.Methods(owner) {
			method, _ := g.Method(owner, name)
			trees[n].methods = append(trees[n].methods, method)
		}
	}
	return trees
}

// listed answers that many classes by their numbers, when the classes of the nodes are known.
func listed(trees []tree, of []int, count int) []class {
	list := make([]class, count)
	for n := len(trees) - 1; n >= 0; n-- { // the least node of a class comes last, and stays
		list[of[n]].node = n
	}
	for i := range list {
		tree := trees[list[i].node]
		list[i].label = tree.label
		for _, child := range tree.children {
			list[i].children = append(list[i].children, of[child])
		}
	}
	return list
}
