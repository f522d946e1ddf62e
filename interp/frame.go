package interp

import (
	"coil/api"
	"coil/check"
	"coil/value"
)

// frame is what an open call has. What an expression does there is its method.
type frame struct {
	*run
	self      api.Value
	variables map[string]api.Value // by name: those that are known at the place that was come to
}

// eval answers the value of an expression.
//
// First parts may be nested so deep, and that in so many open calls, that they are not gone into by calls: those that are
// ahead of the one whose turn it is are kept in a list, the innermost one last.
func (f *frame) eval(x *check.Expr) (api.Value, api.Errno) {
	var few [4]*check.Expr
	ahead := few[:0]
	for ; hasFirst(x.Kind); x = &x.Parts[0] {
		ahead = append(ahead, x)
	}
	v, why := f.start(x)
	for i := len(ahead) - 1; i >= 0 && why == api.OK; i-- {
		v, why = f.goOn(ahead[i], v)
	}
	return v, why
}

// hasFirst tells of which kinds a first part is no deeper than what it is a part of.
func hasFirst(kind int) bool {
	switch kind {
	case api.XField, api.XCall, api.XApply, api.XTo:
		return true
	}
	return kind >= api.XMul
}

// all answers the values of expressions, from the left.
func (f *frame) all(l []check.Expr) ([]api.Value, api.Errno) {
	values := make([]api.Value, len(l))
	for i := range l {
		v, why := f.eval(&l[i])
		if why != api.OK {
			return nil, why
		}
		values[i] = v
	}
	return values, api.OK
}

// start answers the value of an expression that has no first part.
func (f *frame) start(x *check.Expr) (api.Value, api.Errno) {
	switch x.Kind {
	case api.XInt:
		return value.OfInt(x.Class, x.N), api.OK
	case api.XText:
		return value.OfText(x.Class, x.S)
	case api.XBool:
		return api.Value{Kind: api.VBool, Class: x.Class, N: x.N}, api.OK
	case api.XVar:
		return f.name(x), api.OK
	case api.XSelf:
		return f.self, api.OK
	case api.XNil:
		return api.Value{Kind: api.VPtr, Class: x.Class}, api.OK
	case api.XRec:
		return f.record(x, x.Class)
	case api.XNew:
		return f.pointer(x)
	}
	v, why := f.eval(&x.Parts[0])
	if why != api.OK {
		return api.Value{}, why
	}
	return value.Unary(x.Kind, x.Class, v), api.OK
}

// goOn answers the value of an expression whose first part has a value.
func (f *frame) goOn(x *check.Expr, first api.Value) (api.Value, api.Errno) {
	switch x.Kind {
	case api.XField:
		return f.field(x, first)
	case api.XCall:
		return f.method(x, first)
	case api.XApply:
		return f.apply(x, first)
	case api.XTo:
		return f.cast(x, first)
	case api.XAnd, api.XOr:
		if value.True(first) == (x.Kind == api.XOr) { // it decides
			return first, api.OK
		}
	}
	second, why := f.eval(&x.Parts[1])
	if why != api.OK {
		return api.Value{}, why
	}
	return value.Binary(x.Kind, x.Class, first, second)
}

// name answers the value of a variable, or the function of that name.
func (f *frame) name(x *check.Expr) api.Value {
	if v, ok := f.variables[x.S]; ok {
		return v
	}
	return api.Value{Kind: api.VFn, Class: x.Class, S: x.S}
}

// record makes a record of that class.
func (f *frame) record(x *check.Expr, class int) (api.Value, api.Errno) {
	parts, why := f.all(x.Parts)
	if why != api.OK {
		return api.Value{}, why
	}
	v := api.Value{Kind: api.VRec, Class: class, Parts: make([]api.Value, len(parts))}
	for i, name := range x.Names {
		place, _ := f.shapes.Place(class, name)
		v.Parts[place] = parts[i]
	}
	return v, api.OK
}

// pointer makes a record, and a pointer to it.
func (f *frame) pointer(x *check.Expr) (api.Value, api.Errno) {
	v, why := f.record(x, f.Children(x.Class)[0])
	if why != api.OK {
		return api.Value{}, why
	}
	return api.Value{Kind: api.VPtr, Class: x.Class, Parts: []api.Value{v}}, api.OK
}

// cast lets a value pass that goes up, or whose own class may stand for the one that is asked.
func (f *frame) cast(x *check.Expr, v api.Value) (api.Value, api.Errno) {
	if !f.below(x.Parts[0].Class, x.Class) && !f.below(v.Class, x.Class) {
		return api.Value{}, api.ErrDown
	}
	return v, api.OK
}
