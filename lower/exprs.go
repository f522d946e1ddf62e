package lower

import (
	"slices"

	"coil/api"
	"coil/check"
)

// expr adds what lays an expression's value on the stack.
func (e *emitter) expr(x *check.Expr) {
	switch x.Kind {
	case api.XInt:
		e.value(x, api.VInt)
	case api.XText:
		e.text(x)
	case api.XBool:
		e.value(x, api.VBool)
	case api.XVar:
		e.name(x)
	case api.XSelf:
		e.add(Self{})
	case api.XNil:
		e.value(x, api.VPtr)
	case api.XRec:
		e.record(x, x.Class)
	case api.XNew:
		e.record(x, e.followed(x.Class))
		e.add(Pointer{Typed: Typed{x.Class}})
	case api.XField:
		e.exprs(x.Parts)
		e.add(Field{Fields: e.find(x.Parts[0].Class, x.S).Fields})
	case api.XCall:
		e.call(x)
	case api.XAnd:
		e.decide(x, 0)
	case api.XOr:
		e.decide(x, 1)
	default:
		e.operation(x)
	}
}

func (e *emitter) exprs(l []check.Expr) {
	for i := range l {
		e.expr(&l[i])
	}
}

// value adds a value that is known from the text.
func (e *emitter) value(x *check.Expr, kind int) {
	e.add(Const{Value: api.Value{Kind: kind, Class: x.Class, N: x.N, S: x.S}})
}

func (e *emitter) text(x *check.Expr) {
	if len(x.S) > api.MaxString {
		e.add(TooBig{})
		return
	}
	e.value(x, api.VText)
}

// name adds a variable's value or, if none has the name, a function.
func (e *emitter) name(x *check.Expr) {
	if v, ok := e.variables[x.S]; ok {
		e.add(Load{Variable: v})
		return
	}
	e.value(x, api.VFn)
}

// record adds a record of that class. All of its fields are written down, so that their numbers are those of the names among
// one another.
func (e *emitter) record(x *check.Expr, class int) {
	e.exprs(x.Parts)
	names := slices.Sorted(slices.Values(x.Names))
	places := make([]int, len(names))
	for i, name := range x.Names {
		places[i], _ = slices.BinarySearch(names, name)
	}
	e.add(Record{Typed: Typed{class}, Fields: e.code.list(places)})
}

// call adds a call of a method. Its site comes ahead of those in its parts.
func (e *emitter) call(x *check.Expr) {
	m := e.find(x.Parts[0].Class, x.S)
	arguments := Arguments{len(x.Parts) - 1}
	if m.Kind == api.MIface {
		site := e.site(m)
		e.code.sites = append(e.code.sites, site)
		e.exprs(x.Parts)
		e.add(Dispatch{Site: site, Fields: m.Fields, Arguments: arguments})
		return
	}
	e.exprs(x.Parts)
	number := e.code.numbers[key{m.Owner, m.Name}]
	e.add(Call{Callee: Callee{number}, Fields: m.Fields, Arguments: arguments})
}

// decide adds a word whose second part counts only if the first one is not the bool with that N.
func (e *emitter) decide(x *check.Expr, n int) {
	e.expr(&x.Parts[0])
	at := e.hold()
	e.expr(&x.Parts[1])
	e.set(at, Decided{Target: e.here(), N: n})
}

// operation adds what is made of the values of all parts.
func (e *emitter) operation(x *check.Expr) {
	e.exprs(x.Parts)
	sign, typed := Sign{x.Kind}, Typed{x.Class}
	switch x.Kind {
	case api.XApply:
		e.add(Apply{Arguments: Arguments{len(x.Parts) - 1}})
	case api.XTo:
		e.add(Cast{Typed: typed})
	case api.XNeg, api.XNot:
		e.add(Unary{Sign: sign, Typed: typed})
	default:
		e.add(Binary{Sign: sign, Typed: typed})
	}
}
