package value

import (
	"slices"

	"coil/api"
	"coil/canon"
	"coil/graph"
)

// shape is what a class asks of its values; the kind of one that is none is 0.
type shape struct {
	kind     int
	names    []string // of a record: its fields', in the order of the children
	children []int
}

// shapes are those of classes, each worked out when it is first asked for.
type shapes struct {
	*canon.Classes
	graph *graph.Graph
	known map[int]shape
}

func shapesOf(c *canon.Classes) shapes {
	return shapes{Classes: c, graph: c.Graph(), known: map[int]shape{}}
}

func (s shapes) at(class int) shape {
	if known, ok := s.known[class]; ok {
		return known
	}
	var made shape
	if node, ok := s.Node(class); ok {
		made = shape{kind: s.graph.Kind(node), names: s.graph.Names(node), children: s.Children(class)}
		slices.Sort(made.names)
	}
	s.known[class] = made
	return made
}

// field is a field of a right value.
func (s shapes) field(v *api.Value, name string) (*api.Value, api.Errno) {
	if v.Kind == api.VPtr {
		if len(v.Parts) == 0 {
			return nil, api.ErrNil
		}
		v = &v.Parts[0]
	}
	i, ok := slices.BinarySearch(s.at(v.Class).names, name) // none, if it is no record
	if !ok {
		return nil, api.ErrField
	}
	return &v.Parts[i], api.OK
}
