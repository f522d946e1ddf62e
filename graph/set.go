package graph

import (
	"coil/api"
	"coil/syntax"
)

// set is what New is given.
type set struct {
	defs    []api.Def
	methods []api.Code
	index   map[string]int // by a name: the number of the first definition that has it
	types   []placed       // the definitions' right sides, and behind them the methods' signatures
}

func newSet(defs []api.Def, methods []api.Code) *set {
	s := &set{defs: defs, methods: methods, index: map[string]int{}}
	for i, d := range defs {
		if _, ok := s.index[d.Name]; !ok {
			s.index[d.Name] = i
		}
		s.types = append(s.types, placed{Place: d.Place, Type: d.T})
	}
	for _, m := range methods {
		s.types = append(s.types, placed{Place: m.Place, Type: signature(m)})
	}
	return s
}

// signature is the function type of a method: the types of its parameters, and its result.
func signature(m api.Code) api.Type {
	t := api.Type{Kind: api.TFn}
	for _, p := range m.Params {
		t.Parts = append(t.Parts, p.T)
	}
	t.Parts = append(t.Parts, m.Result)
	return t
}

func (s *set) twice() *Refusal {
	for i, d := range s.defs {
		if s.index[d.Name] != i {
			return &Refusal{Place: d.Place, Why: api.ErrTwice, Name: d.Name}
		}
	}
	return nil
}

func (s *set) wrongDef() *Refusal {
	for _, d := range s.defs {
		if !right(api.Type{Kind: api.TName, Name: d.Name}) || !right(d.T) {
			return &Refusal{Place: d.Place, Why: api.ErrArg, Name: d.Name}
		}
	}
	return nil
}

// member is a field or method of a definition.
type member struct{ owner, name string }

func (s *set) wrongMethod() *Refusal {
	taken := s.fields()
	for _, m := range s.methods {
		if why := s.refuseMethod(m, taken); why != api.OK {
			return &Refusal{Place: m.Place, Why: why, Name: m.Name}
		}
		taken[member{m.Owner, m.Name}] = struct{}{}
	}
	return nil
}

// fields is the set of the fields of all definitions that are records.
func (s *set) fields() map[member]struct{} {
	fields := map[member]struct{}{}
	for _, d := range s.defs {
		if d.T.Kind != api.TRec {
			continue
		}
		for _, name := range d.T.Names {
			fields[member{d.Name, name}] = struct{}{}
		}
	}
	return fields
}

func (s *set) refuseMethod(m api.Code, taken map[member]struct{}) api.Errno {
	if _, e := syntax.Code(m); e == api.ErrArg || m.Owner == "" || m.Name == "" {
		return api.ErrArg
	}
	if i, ok := s.index[m.Owner]; !ok || s.defs[i].T.Kind != api.TRec {
		return api.ErrOwner
	}
	if _, ok := taken[member{m.Owner, m.Name}]; ok {
		return api.ErrTwice
	}
	return api.OK
}

func (s *set) noName() *Refusal { return noName(s.types, s.index) }

func (s *set) notContractive() *Refusal {
	for i, end := range s.ends() {
		if end == endless {
			return &Refusal{Place: s.defs[i].Place, Why: api.ErrContract, Name: s.defs[i].Name}
		}
	}
	return nil
}

func (s *set) tooMany() *Refusal { return tooMany(0, s.types) }

// What ends says where it has no definition's number.
const (
	endless = -1 // going on from name to name comes back
	unknown = -2
)

// ends answers of each definition the number of the one at which going on from name to name ends. No definition is gone
// on from twice: there may be many more names than nodes.
func (s *set) ends() []int {
	ends := make([]int, len(s.defs))
	for i := range ends {
		ends[i] = unknown
	}
	for i := range s.defs {
		at := i
		var way []int
		for ends[at] == unknown && s.defs[at].T.Kind == api.TName {
			ends[at] = endless // so it is, if the way comes back here
			way = append(way, at)
			at = s.index[s.defs[at].T.Name]
		}
		if ends[at] == unknown {
			ends[at] = at
		}
		for _, j := range way {
			ends[j] = ends[at]
		}
	}
	return ends
}

// roots answers the node that each definition comes to, when all are laid out in their order.
func (s *set) roots() map[string]int {
	starts := make([]int, len(s.defs))
	next := 0
	for i, d := range s.defs {
		starts[i] = next
		next += syntax.Nodes(d.T)
	}
	roots := map[string]int{}
	for i, end := range s.ends() {
		roots[s.defs[i].Name] = starts[end]
	}
	return roots
}
