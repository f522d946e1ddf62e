package unfold

import (
	"slices"

	"coil/api"
	"coil/graph"
)

// pair is two nodes to which one path leads, from one node each.
type pair struct {
	a, b int
	last api.Step // of the least path to it
	from int      // the number of the pair from which that step leads
}

// search meets pairs in the order of the least paths to them.
//
// same holds, of each node, another one of its group, up to the group's first one, which holds itself. The nodes of a pair
// that is met become one group: their trees are the same, unless that pair differs. So a later pair in one group is passed
// over: if it differs, a pair met earlier does so too, by the same path behind it or a shorter one. Each pair that is kept
// makes two groups one; that is why there are fewer of them than nodes, and the path is shorter still.
type search struct {
	trees
	pairs []pair
	same  []int
}

// Differ finds the least path at which the labels of what two nodes come to by it differ.
func Differ(g *graph.Graph, a, b int) ([]api.Step, bool) {
	if !isNode(g, a) || !isNode(g, b) {
		return nil, false
	}
	s := search{trees: treesOf(g)}
	for n := range g.Len() {
		s.same = append(s.same, n)
	}
	s.meet(pair{a: a, b: b})
	for i := 0; i < len(s.pairs); i++ { // they grow meanwhile
		x, y := s.at(s.pairs[i].a), s.at(s.pairs[i].b)
		if x.label != y.label {
			return s.path(i), true
		}
		for n, c := range x.children {
			s.meet(pair{a: c.node, b: y.children[n].node, last: c.step(n), from: i})
		}
	}
	return nil, false
}

// meet keeps the pair for later, unless its nodes are of one group.
func (s *search) meet(p pair) {
	a, b := s.group(p.a), s.group(p.b)
	if a == b {
		return
	}
	s.same[a] = b
	s.pairs = append(s.pairs, p)
}

// group is the first node of the node's group.
func (s *search) group(n int) int {
	for s.same[n] != n {
		s.same[n] = s.same[s.same[n]] // the next way is shorter
		n = s.same[n]
	}
	return n
}

// path is the least path to the pair of that number; the first pair's is empty.
func (s *search) path(number int) []api.Step {
	var path []api.Step
	for i := number; i > 0; i = s.pairs[i].from {
		path = append(path, s.pairs[i].last)
	}
	slices.Reverse(path)
	return path
}
