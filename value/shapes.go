package value

import (
	"slices"

	"coil/api"
	"coil/canon"
	"coil/graph"
)

// shape is what a class asks of its values; the kind of one that is none is 0.
type shape struct {
	kind     int
	names    []string // of a record: its fields', in the order of the children
	children []int
}

// Shapes are those of classes, each worked out when it is first asked for. A machine asks them of its own values: these are
// right, and may be far too great to be gone through each time.
type Shapes struct {
	*canon.Classes
	graph *graph.Graph
	known map[int]shape
}

// ShapesOf knows nothing yet of these classes.
func ShapesOf(c *canon.Classes) Shapes {
	return Shapes{Classes: c, graph: c.Graph(), known: map[int]shape{}}
}

func (s Shapes) at(class int) shape {
	if known, ok := s.known[class]; ok {
		return known
	}
	var made shape
	if node, ok := s.Node(class); ok {
		made = shape{kind: s.graph.Kind(node), names: s.graph.Names(node), children: s.Children(class)}
		slices.Sort(made.names)
	}
	s.known[class] = made
	return made
}

// Place is the number of a field among the parts of a record's values; false, if that class has no such field.
func (s Shapes) Place(class int, name string) (int, bool) {
	shape := s.at(class)
	i, ok := slices.BinarySearch(shape.names, name)
	return i, ok && shape.kind == api.TRec
}

// Text writes a right value, or api.ErrBig.
func (s Shapes) Text(v api.Value) (string, api.Errno) {
	w := writer{Shapes: s}
	w.write(&v)
	if w.full() {
		return "", api.ErrBig
	}
	return w.String(), api.OK
}

// field is a field of a right value.
func (s Shapes) field(v *api.Value, name string) (*api.Value, api.Errno) {
	if v.Kind == api.VPtr {
		if len(v.Parts) == 0 {
			return nil, api.ErrNil
		}
		v = &v.Parts[0]
	}
	i, ok := s.Place(v.Class, name)
	if !ok {
		return nil, api.ErrField
	}
	return &v.Parts[i], api.OK
}
