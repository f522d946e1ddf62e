package check

import (
	"slices"

	"coil/api"
)

// expr answers the class of an expression; it is listed ahead of its parts.
func (b *body) expr(x api.Expr) (int, *Refusal) {
	b.checked.size++
	at := len(b.checked.types)
	b.checked.types = append(b.checked.types, Typed{Place: x.Place, Kind: x.Kind})
	class, r := b.class(x)
	if r != nil {
		return 0, r
	}
	b.checked.types[at].Class = class
	return class, nil
}

// exprs answers the classes of expressions, from the left to the right.
func (b *body) exprs(l []api.Expr) ([]int, *Refusal) {
	classes := make([]int, len(l))
	for i, x := range l {
		class, r := b.expr(x)
		if r != nil {
			return nil, r
		}
		classes[i] = class
	}
	return classes, nil
}

func (b *body) class(x api.Expr) (int, *Refusal) {
	switch x.Kind {
	case api.XInt:
		return b.number, nil
	case api.XText:
		return b.text, nil
	case api.XBool:
		return b.truth, nil
	case api.XVar:
		return b.name(x)
	case api.XSelf:
		return b.ofSelf(x)
	case api.XNil:
		return b.ofNil(x)
	case api.XRec:
		return b.record(x)
	case api.XNew:
		class := b.next()
		_, r := b.record(x)
		return class, r
	case api.XTo:
		return b.cast(x)
	}
	parts, r := b.exprs(x.Parts)
	if r != nil {
		return 0, r
	}
	switch x.Kind {
	case api.XField:
		return b.field(x, parts[0])
	case api.XCall:
		return b.call(x, parts)
	case api.XApply:
		return b.apply(x, parts)
	}
	return b.operation(x, parts)
}

// name answers the class of a variable or, if none has the name, of a function.
func (b *body) name(x api.Expr) (int, *Refusal) {
	if class, ok := b.variables[x.S]; ok {
		return class, nil
	}
	if class, ok := b.checked.Func(x.S); ok {
		return class, nil
	}
	return 0, &Refusal{Place: x.Place, Why: api.ErrNoName, Name: x.S}
}

func (b *body) ofSelf(x api.Expr) (int, *Refusal) {
	if !b.method {
		return 0, &Refusal{Place: x.Place, Why: api.ErrSelf}
	}
	return b.self, nil
}

func (b *body) ofNil(x api.Expr) (int, *Refusal) {
	class := b.next()
	if b.kind(class) != api.TPtr {
		return 0, wrong(x)
	}
	return class, nil
}

// cast lets an interface be taken for what it may hold, too; if it need not be one, it goes up.
func (b *body) cast(x api.Expr) (int, *Refusal) {
	to := b.next()
	from, r := b.expr(x.Parts[0])
	if r != nil {
		return 0, r
	}
	switch {
	case b.below(from, to):
		b.checked.up++
	case b.kind(from) == api.TIface && b.below(to, from):
		b.checked.down++
	default:
		return 0, &Refusal{Place: x.Place, Why: api.ErrCast}
	}
	return to, nil
}

// operation answers the class of what is made by a sign or word: the first part is of one of the classes that it takes, and
// so are the others, of the same one.
func (b *body) operation(x api.Expr, parts []int) (int, *Refusal) {
	if !slices.Contains(b.operands(x.Kind), parts[0]) {
		return 0, wrong(x.Parts[0])
	}
	for i, class := range parts {
		if class != parts[0] {
			return 0, wrong(x.Parts[i])
		}
	}
	if x.Kind == api.XEq || x.Kind == api.XLess {
		return b.truth, nil
	}
	return parts[0], nil
}

func (b *body) operands(kind int) []int {
	switch kind {
	case api.XNot, api.XAnd, api.XOr:
		return []int{b.truth}
	case api.XAdd, api.XLess:
		return []int{b.number, b.text}
	case api.XEq:
		return []int{b.number, b.text, b.truth}
	}
	return []int{b.number}
}
