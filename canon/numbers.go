package canon

import "slices"

// unmet is the number of a group that was not met yet.
const unmet = -1

// numbering numbers groups of nodes as they are first met.
type numbering struct {
	trees   []tree
	groups  []int // by node: its group
	numbers []int // by group: its number, or unmet
	count   int   // of the groups that were met
}

func newNumbering(trees []tree) *numbering {
	return &numbering{
		trees:   trees,
		groups:  merge(trees),
		numbers: slices.Repeat([]int{unmet}, len(trees)), // there are no more groups than nodes
	}
}

// meet numbers the groups of the nodes and all to which they lead, in depth, as far as they have no numbers yet.
func (n *numbering) meet(nodes ...int) {
	for _, node := range nodes {
		group := n.groups[node]
		if n.numbers[group] != unmet {
			continue
		}
		n.numbers[group] = n.count
		n.count++
		n.meet(n.trees[node].children...)
		n.meet(n.trees[node].methods...)
	}
}

// of is the number of each node's group.
func (n *numbering) of() []int {
	of := make([]int, len(n.groups))
	for node, group := range n.groups {
		of[node] = n.numbers[group]
	}
	return of
}
