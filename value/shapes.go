package value

import (
	"slices"

	"coil/api"
	"coil/canon"
	"coil/graph"
)

// shape is what a class asks of its values; the kind of one that is none is 0.
type shape struct {
	kind     int
	names    []string // of a record's fields, or an interface's methods, in the order of the children
	children []int
}

// Shapes are those of classes, each worked out when it is first asked for. A machine asks them of its own values: these are
// right, and may be far too great to be gone through each time.
type Shapes struct {
	*canon.Classes
	graph *graph.Graph
	known map[int]shape
}

// ShapesOf knows nothing yet of these classes.
func ShapesOf(c *canon.Classes) Shapes {
	return Shapes{Classes: c, graph: c.Graph(), known: map[int]shape{}}
}

func (s Shapes) at(class int) shape {
	if known, ok := s.known[class]; ok {
		return known
	}
	var made shape
	if node, ok := s.Node(class); ok {
		made = shape{kind: s.graph.Kind(node), names: s.graph.Names(node), children: s.Children(class)}
		slices.Sort(made.names)
	}
	s.known[class] = made
	return made
}

// Place is the number of a field among the parts of a record's values, or that of a method among an interface's; false, if
// that class has none of that name itself.
func (s Shapes) Place(class int, name string) (int, bool) {
	return slices.BinarySearch(s.at(class).names, name)
}

// Text writes a right value, or api.ErrBig.
func (s Shapes) Text(v api.Value) (string, api.Errno) {
	w := writer{Shapes: s}
	w.write(&v)
	if w.full() {
		return "", api.ErrBig
	}
	return w.String(), api.OK
}

// Walk goes from field to field of a right value. What it comes to shares memory with that one.
func (s Shapes) Walk(v api.Value, path ...string) (api.Value, api.Errno) {
	for _, name := range path {
		r, why := Followed(v)
		if why != api.OK {
			return api.Value{}, why
		}
		i, ok := s.Place(r.Class, name)
		if !ok {
			return api.Value{}, api.ErrField
		}
		v = r.Parts[i]
	}
	return v, api.OK
}

// Followed is what a pointer points to, any other value itself.
func Followed(v api.Value) (api.Value, api.Errno) {
	switch {
	case v.Kind != api.VPtr:
		return v, api.OK
	case len(v.Parts) == 0:
		return api.Value{}, api.ErrNil
	}
	return v.Parts[0], api.OK
}
