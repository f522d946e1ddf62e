package member

import (
	"slices"

	"coil/api"
	"coil/canon"
	"coil/graph"
)

// place is where a record or interface stands at some depth.
type place struct {
	class int
	depth int
	count int    // how often it stands there
	from  *place // the record from which an embedded field leads here; none at depth 0
	field string // that field's name
}

// path lists the embedded fields that lead to a place that is come to by one path.
func (p *place) path() []string {
	var path []string
	for ; p.from != nil; p = p.from {
		path = append(path, p.field)
	}
	slices.Reverse(path)
	return path
}

// frontier is what stands at one depth: records and interfaces, each class once, and their members by names.
type frontier struct {
	table
	places []*place
}

// walk goes from depth to depth.
//
// What was met at a lesser depth is passed over: all that it gives stands at lesser depths already, and there hides what it
// would give here. So a walk ends, even where embeddings come back to themselves.
type walk struct {
	frontier          // of the depth to which it came
	next     []*place // what stands at the next one
	met      []*place // by class: where it stands at its least depth; nil, if it wasn't met
	classes  *canon.Classes
	graph    *graph.Graph
}

// newWalk begins ahead of depth 0. It goes for the members of one name only; if that is empty, for all.
func newWalk(c *canon.Classes, class int, only string) *walk {
	w := &walk{met: make([]*place, c.Len()), classes: c, graph: c.Graph()}
	w.table = newTable(only)
	if base, ok := w.base(class); ok {
		w.meet(place{class: base, count: 1})
	}
	return w
}

// deeper goes on to the next depth; false, if nothing stands there that wasn't met.
func (w *walk) deeper() bool {
	w.frontier = frontier{table: newTable(w.only), places: w.next}
	w.next = nil
	for _, p := range w.places {
		w.open(p)
	}
	return len(w.places) > 0
}

// open takes up what stands at the place: its members, and what its embedded fields give at the next depth.
func (w *walk) open(p *place) {
	node, _ := w.classes.Node(p.class)
	kind := api.MField
	if w.graph.Kind(node) == api.TIface {
		kind = api.MIface
	}
	names, embeds := w.graph.Names(node), w.graph.Embeds(node)
	for i, part := range w.graph.Parts(node) {
		class, _ := w.classes.Of(part)
		w.put(p, api.Member{Kind: kind, Name: names[i], Node: class})
		if kind == api.MField && embeds[i] {
			w.embed(p, names[i], class)
		}
	}
	owner := w.graph.Owner(node)
	for _, name := range w.graph.Methods(owner) {
		method, _ := w.graph.Method(owner, name)
		class, _ := w.classes.Of(method)
		w.put(p, api.Member{Kind: api.MMethod, Owner: owner, Name: name, Node: class})
	}
}

// embed takes up what an embedded field of that class gives, as often as its record stands at its place.
func (w *walk) embed(from *place, field string, class int) {
	if base, ok := w.base(class); ok {
		w.meet(place{class: base, depth: from.depth + 1, count: from.count, from: from, field: field})
	}
}

// meet keeps a place for the next depth, or counts it to the one of that class that is kept already.
func (w *walk) meet(p place) {
	met := w.met[p.class]
	switch {
	case met == nil:
		w.met[p.class] = &p
		w.next = append(w.next, &p)
	case met.depth == p.depth:
		met.count = many
	}
}

// base is the class of the record or interface whose members a class has; false, if it has none.
func (w *walk) base(class int) (int, bool) {
	node, _ := w.classes.Node(class)
	switch w.graph.Kind(node) {
	case api.TRec, api.TIface:
		return class, true
	case api.TPtr:
		to := w.graph.Parts(node)[0]
		if w.graph.Kind(to) == api.TRec {
			return w.classes.Of(to)
		}
	}
	return 0, false
}
