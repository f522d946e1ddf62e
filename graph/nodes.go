package graph

import (
	"slices"

	"coil/api"
)

// common is what all kinds of nodes have.
type common struct {
	kind  int
	parts []int
}

// node is a type expression: what all kinds have, and what records and interfaces alone have.
type node struct {
	common
	names  []string
	embeds []bool
	owner  string
}

// placed is a type, and the place of the definition or method that it is of.
type placed struct {
	api.Place
	api.Type
}

// embedded is an embedded field, with the place of the definition or method in which it stands.
type embedded struct {
	api.Place
	name string
	part int
}

// layer lays types out behind the nodes of a graph. It gathers their embedded fields from the left to the right: what
// these come to is known only when all is laid out.
type layer struct {
	*Graph
	fields []embedded
}

// lay lays the types out and answers the node of each; if an embedded field refuses them, nothing is laid out.
func (g *Graph) lay(types []placed) ([]int, *Refusal) {
	l := layer{Graph: g}
	before := len(g.nodes)
	nodes := make([]int, len(types))
	for i, t := range types {
		nodes[i] = l.layType(t)
	}
	for _, f := range l.fields {
		if !g.embeddable(f.part) {
			g.nodes = g.nodes[:before]
			return nil, &Refusal{Place: f.Place, Why: api.ErrEmbed, Name: f.name}
		}
	}
	return nodes, nil
}

// layType lays a type out, ahead of its parts, unless it is a name.
func (l *layer) layType(t placed) int {
	number := l.number(t.Type)
	if t.Kind == api.TName {
		return number
	}
	l.nodes = append(l.nodes, node{
		common: common{kind: t.Kind},
		names:  slices.Clone(t.Names),
		embeds: slices.Clone(t.Embeds),
	})
	parts := make([]int, len(t.Parts))
	for i, p := range t.Parts {
		if t.Kind == api.TRec && t.Embeds[i] {
			l.fields = append(l.fields, embedded{Place: t.Place, name: t.Names[i], part: l.number(p)})
		}
		parts[i] = l.layType(placed{Place: t.Place, Type: p})
	}
	l.nodes[number].parts = parts
	return number
}

// number is the node that a type gets, if it is laid out now.
func (l *layer) number(t api.Type) int {
	if t.Kind == api.TName {
		return l.roots[t.Name]
	}
	return l.Len()
}

// embeddable: may a field of that type be embedded?
func (g *Graph) embeddable(number int) bool {
	n := g.nodes[number]
	switch n.kind {
	case api.TPtr:
		return g.nodes[n.parts[0]].kind == api.TRec
	case api.TRec, api.TIface:
		return true
	}
	return false
}
