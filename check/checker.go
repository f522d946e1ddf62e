package check

import (
	"coil/api"
	"coil/canon"
	"coil/graph"
	"coil/member"
	"coil/subtype"
)

// checker checks a program's bodies, one after the other.
type checker struct {
	*subtype.Relation
	graph               *graph.Graph
	checked             *Checked // as far as it is known
	number, truth, text int      // the classes of int, bool, text
	named               []int    // the classes of the types that the bodies name, without those that were come to
	members             *member.Finder
}

// newChecker begins ahead of the first body. The nodes are those of all that named lists, in its order.
func newChecker(g *graph.Graph, funcs []api.Code, nodes []int) *checker {
	classes := canon.New(g)
	types := make([]int, len(nodes))
	for i, node := range nodes {
		types[i], _ = classes.Of(node)
	}
	main, basic := len(funcs), len(types)-3
	c := &checker{
		Relation: subtype.New(classes),
		graph:    g,
		checked:  &Checked{classes: classes, result: types[main], funcs: map[string]int{}},
		number:   types[basic],
		truth:    types[basic+1],
		text:     types[basic+2],
		named:    types[main+1 : basic],
		members:  member.NewFinder(classes),
	}
	for i, f := range funcs {
		c.checked.funcs[f.Name] = types[i]
	}
	return c
}

// next is the class of the type that is named next: a body's checker comes to the types in the order in which they were
// taken.
func (c *checker) next() int {
	class := c.named[0]
	c.named = c.named[1:]
	return class
}

// head lists the classes of a code's parameters, and behind them that of its result.
func (c *checker) head(code api.Code) []int {
	switch {
	case code.Owner != "":
		node, _ := c.graph.Method(code.Owner, code.Name)
		class, _ := c.Of(node)
		return c.Children(class)
	case code.Name != "":
		return c.Children(c.checked.funcs[code.Name])
	}
	return []int{c.checked.result}
}

func (c *checker) kind(class int) int {
	node, _ := c.Node(class)
	return c.graph.Kind(node)
}

func (c *checker) below(a, b int) bool {
	ok, _ := c.Below(a, b)
	return ok
}
