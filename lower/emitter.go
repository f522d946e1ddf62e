package lower

import (
	"coil/api"
	"coil/canon"
	"coil/check"
	"coil/graph"
)

// lowering lowers a program's bodies, one after the other.
type lowering struct {
	*canon.Classes
	graph  *graph.Graph
	code   *Code         // as far as it has come
	shapes map[int]shape // by class
	known  map[question]found
}

// newLowering begins ahead of the first body. All blocks have their numbers: bodies call those behind them, too.
func newLowering(c *check.Checked, bodies []check.Code) *lowering {
	code := &Code{checked: c, numbers: map[key]int{}}
	for i, b := range bodies {
		code.numbers[key{b.Owner, b.Name}] = i
	}
	return &lowering{Classes: c.Classes(), graph: c.Classes().Graph(), code: code, shapes: map[int]shape{}, known: map[question]found{}}
}

// lower adds the block of a body.
func (l *lowering) lower(body check.Code) {
	e := emitter{lowering: l, variables: map[string]Variable{}}
	for _, name := range body.Params {
		e.variables[name] = e.slot()
	}
	e.stmts(body.Body)
	l.code.blocks = append(l.code.blocks, e.Block)
}

// emitter lowers one body, into the block that it embeds.
type emitter struct {
	*lowering
	Block
	variables map[string]Variable // by name: those that are known at the place that was come to
}

// stmts forgets the variables of a list of statements in the end. None of them has hidden another one: that would have been
// refused.
func (e *emitter) stmts(l []check.Stmt) {
	for i := range l {
		e.stmt(&l[i])
	}
	for i := range l {
		if l[i].Kind == api.SLet {
			delete(e.variables, l[i].Name)
		}
	}
}

func (e *emitter) stmt(s *check.Stmt) {
	first := e.here()
	e.add(Step{})
	e.expr(&s.X)
	switch s.Kind {
	case api.SLet: // its expression doesn't know it yet
		v := e.slot()
		e.variables[s.Name] = v
		e.add(Store{Variable: v})
	case api.SSet:
		e.add(Store{Variable: e.variables[s.Name]})
	case api.SPrint:
		e.add(Print{})
	case api.SIf:
		e.choose(s)
	case api.SWhile:
		e.repeat(s, first)
	case api.SReturn:
		e.add(Return{})
	case api.SDo:
		e.add(Drop{})
	}
}

// choose adds both blocks of an if.
func (e *emitter) choose(s *check.Stmt) {
	unless := e.hold()
	e.stmts(s.Body)
	jump := e.hold()
	e.set(unless, Unless{Target: e.here()})
	e.stmts(s.Else)
	e.set(jump, Jump{Target: e.here()})
}

// repeat adds the block of a while, which is begun again, and counted again, behind it.
func (e *emitter) repeat(s *check.Stmt, first Target) {
	unless := e.hold()
	e.stmts(s.Body)
	e.add(Jump{Target: first})
	e.set(unless, Unless{Target: e.here()})
}
