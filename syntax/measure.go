package syntax

import (
	"slices"
	"strings"

	"coil/api"
)

// Nodes counts the type expressions in types that are no names.
func Nodes(types ...api.Type) int {
	n := 0
	for _, t := range types {
		if t.Kind != api.TName {
			n++
		}
		n += Nodes(t.Parts...)
	}
	return n
}

// Names lists the names in types, each once, in the order in which they first come.
func Names(types ...api.Type) []string {
	l := nameList{known: map[string]struct{}{}}
	l.add(types)
	return l.names
}

// nameList keeps beside the names a set of them, so that many are not held against each other one by one.
type nameList struct {
	names []string
	known map[string]struct{}
}

func (l *nameList) add(types []api.Type) {
	for _, t := range types {
		if t.Kind == api.TName {
			l.addName(t.Name)
		}
		l.add(t.Parts)
	}
}

func (l *nameList) addName(s string) {
	if _, ok := l.known[s]; ok {
		return
	}
	l.known[s] = struct{}{}
	l.names = append(l.names, strings.Clone(s))
}

// Depth is how deep the deepest of types is nested.
func Depth(types ...api.Type) int {
	most := 0
	for _, t := range types {
		most = max(most, 1+Depth(t.Parts...))
	}
	return most
}

// Same: are a and b the same tree?
func Same(a, b api.Type) bool {
	return a.Kind == b.Kind && a.Name == b.Name &&
		slices.Equal(a.Names, b.Names) && slices.Equal(a.Embeds, b.Embeds) &&
		slices.EqualFunc(a.Parts, b.Parts, Same)
}
