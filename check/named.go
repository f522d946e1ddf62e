package check

import (
	"errors"

	"coil/api"
	"coil/graph"
)

// placed is a type, and the place at which it is refused.
type placed struct {
	api.Place
	api.Type
}

// list gathers types in the order in which they are taken.
type list []placed

func (l *list) add(at api.Place, types ...api.Type) {
	for _, t := range types {
		*l = append(*l, placed{Place: at, Type: t})
	}
}

// named lists the types that a program names beside its definitions and methods: of each function its own, the main one's
// result, those of the bodies, and last those of what can be written without a name: int, bool, text.
func named(p api.Program) list {
	var l list
	for _, f := range p.Funcs {
		l.add(f.Place, signature(f))
	}
	l.add(p.Main.Place, p.Main.Result)
	for _, c := range codes(p) {
		l.addStmts(c.Body)
	}
	l.add(api.Place{}, api.Type{Kind: api.TInt}, api.Type{Kind: api.TBool}, api.Type{Kind: api.TText})
	return l
}

// signature is the type of a function.
func signature(f api.Code) api.Type {
	t := api.Type{Kind: api.TFn}
	for _, p := range f.Params {
		t.Parts = append(t.Parts, p.T)
	}
	t.Parts = append(t.Parts, f.Result)
	return t
}

func (l *list) addStmts(stmts []api.Stmt) {
	for _, s := range stmts {
		l.add(s.Place, s.T...)
		l.addExprs(s.X)
		l.addStmts(s.Body)
		l.addStmts(s.Else)
	}
}

func (l *list) addExprs(exprs []api.Expr) {
	for _, x := range exprs {
		l.add(x.Place, own(x)...)
		l.addExprs(x.Parts)
	}
}

// own is the type that an expression itself names, or none.
func own(x api.Expr) []api.Type {
	if x.Kind == api.XNew {
		return []api.Type{{Kind: api.TPtr, Parts: []api.Type{{Kind: api.TName, Name: x.S}}}}
	}
	return x.T
}

// take adds the types to the graph, one after the other, and answers the node of each.
func take(g *graph.Graph, types list) ([]int, *Refusal) {
	nodes := make([]int, len(types))
	for i, t := range types {
		added, err := g.Add(t.Type)
		if err != nil {
			r := fromGraph(err)
			r.Place = t.Place
			return nil, r
		}
		nodes[i] = added[0]
	}
	return nodes, nil
}

// fromGraph tells what a graph refuses as this package's refusal.
func fromGraph(err error) *Refusal {
	var r *graph.Refusal
	errors.As(err, &r)
	return &Refusal{Place: r.Place, Why: r.Why, Name: r.Name}
}
