package interp

import (
	"coil/api"
	"coil/check"
	"coil/value"
)

// body runs the statements of an open call; what their expressions do is its frame's.
type body struct {
	frame
	result api.Value
}

// block runs statements, and forgets their variables in the end; true, if one of them has returned.
func (b *body) block(l []check.Stmt) (bool, api.Errno) {
	for i := range l {
		if returned, why := b.stmt(&l[i]); returned || why != api.OK {
			return returned, why
		}
	}
	for i := range l {
		if l[i].Kind == api.SLet {
			delete(b.variables, l[i].Name)
		}
	}
	return false, api.OK
}

// stmt is true, if the statement has returned.
func (b *body) stmt(s *check.Stmt) (bool, api.Errno) {
	v, why := b.begin(s)
	if why != api.OK {
		return false, why
	}
	switch s.Kind {
	case api.SLet, api.SSet:
		b.variables[s.Name] = v
	case api.SPrint:
		return false, b.print(v)
	case api.SIf:
		if value.True(v) {
			return b.block(s.Body)
		}
		return b.block(s.Else)
	case api.SWhile:
		return b.loop(s, v)
	case api.SReturn:
		b.result = v
		return true, api.OK
	}
	return false, api.OK
}

// begin counts a statement, and answers the value of its expression.
func (b *body) begin(s *check.Stmt) (api.Value, api.Errno) {
	if why := b.step(); why != api.OK {
		return api.Value{}, why
	}
	return b.eval(&s.X)
}

// loop runs a body as long as its statement's expression, which has a value already, is true.
func (b *body) loop(s *check.Stmt, v api.Value) (bool, api.Errno) {
	for value.True(v) {
		returned, why := b.block(s.Body)
		if returned || why != api.OK {
			return returned, why
		}
		v, why = b.begin(s)
		if why != api.OK {
			return false, why
		}
	}
	return false, api.OK
}
