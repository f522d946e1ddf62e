package graph

import (
	"coil/api"
	"coil/syntax"
)

// first is what the first of the checks that refuses answers; the checks behind it may rely on those ahead of it.
func first(checks ...func() *Refusal) *Refusal {
	for _, check := range checks {
		if r := check(); r != nil {
			return r
		}
	}
	return nil
}

// right: is t a right type? (syntax refuses nothing else with ErrArg.)
func right(t api.Type) bool {
	_, e := syntax.Type(t)
	return e != api.ErrArg
}

func wrongType(types []api.Type) *Refusal {
	for _, t := range types {
		if !right(t) {
			return &Refusal{Why: api.ErrArg}
		}
	}
	return nil
}

// noName refuses the first type in which a name stands that isn't known.
func noName(types []placed, known map[string]int) *Refusal {
	for _, t := range types {
		for _, name := range syntax.Names(t.Type) {
			if _, ok := known[name]; !ok {
				return &Refusal{Place: t.Place, Why: api.ErrNoName, Name: name}
			}
		}
	}
	return nil
}

// tooMany refuses types that have more nodes than there is room for beside those that are there.
func tooMany(nodes int, types []placed) *Refusal {
	for _, t := range types {
		nodes += syntax.Nodes(t.Type)
	}
	if nodes > api.MaxTypes {
		return &Refusal{Why: api.ErrTooMany}
	}
	return nil
}
