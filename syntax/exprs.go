package syntax

import (
	"math"

	"coil/api"
)

// shape is what the fields of an expression of one kind are.
type shape struct {
	says        int // which kind of token S is; 0: none
	mostN       int
	types       int
	named       bool // as many Names as Parts, else none
	least, most int  // parts
}

// shapeOf answers the shape of a kind; false, if it is none.
func shapeOf(kind int) (shape, bool) {
	switch kind {
	case api.XInt:
		return shape{mostN: math.MaxInt}, true
	case api.XText:
		return shape{says: api.KText}, true
	case api.XBool:
		return shape{mostN: 1}, true
	case api.XVar:
		return shape{says: api.KName}, true
	case api.XSelf:
		return shape{}, true
	case api.XNil:
		return shape{types: 1}, true
	case api.XRec, api.XNew:
		return shape{says: api.KType, named: true, most: math.MaxInt}, true
	case api.XField:
		return shape{says: api.KName, least: 1, most: 1}, true
	case api.XCall:
		return shape{says: api.KName, least: 1, most: math.MaxInt}, true
	case api.XApply:
		return shape{least: 1, most: math.MaxInt}, true
	case api.XTo:
		return shape{types: 1, least: 1, most: 1}, true
	case api.XNeg, api.XNot:
		return shape{least: 1, most: 1}, true
	}
	return shape{least: 2, most: 2}, twoSided(kind)
}

func twoSided(kind int) bool { return api.XMul <= kind && kind <= api.XOr }

// leads: has an expression of that kind a first part, which is no deeper than the whole?
func leads(kind int) bool {
	switch kind {
	case api.XField, api.XCall, api.XApply, api.XTo:
		return true
	}
	return twoSided(kind)
}

// rightExpr: is x right, and at most room deep?
func rightExpr(x api.Expr, room int) bool {
	if room == 0 || !shapedExpr(x) || !rightTypes(x.T, api.MaxNest) {
		return false
	}
	for i, p := range x.Parts {
		deeper := 1
		if i == 0 && leads(x.Kind) {
			deeper = 0
		}
		if !rightExpr(p, room-deeper) {
			return false
		}
	}
	return true
}

// shapedExpr: has x the fields of its kind and no other? Its types and parts are counted alone.
func shapedExpr(x api.Expr) bool {
	s, ok := shapeOf(x.Kind)
	if !ok || x.N < 0 || x.N > s.mostN || len(x.T) != s.types {
		return false
	}
	if len(x.Parts) < s.least || len(x.Parts) > s.most {
		return false
	}
	return saysRight(s.says, x.S) && namesRight(s.named, x)
}

func saysRight(kind int, s string) bool {
	if kind == 0 {
		return s == ""
	}
	return isToken(kind, s)
}

func namesRight(named bool, x api.Expr) bool {
	if !named {
		return len(x.Names) == 0
	}
	return len(x.Names) == len(x.Parts) && rightNames(x.Names)
}

// The levels at which an expression may stand without parentheses: any of them between braces or as an argument.
const (
	levelAny     = 1
	levelUnary   = 6
	levelPostfix = 7
	levelPrimary = 8
)

func level(kind int) int {
	switch kind {
	case api.XOr:
		return 1
	case api.XAnd:
		return 2
	case api.XEq, api.XLess:
		return 3
	case api.XAdd, api.XSub:
		return 4
	case api.XMul:
		return 5
	case api.XNeg, api.XNot:
		return levelUnary
	case api.XTo, api.XField, api.XCall, api.XApply:
		return levelPostfix
	}
	return levelPrimary
}

// exprWriter writes right expressions.
type exprWriter struct {
	typeWriter
}

func (w *exprWriter) writeExpr(x api.Expr) {
	switch {
	case twoSided(x.Kind):
		w.writeTwoSided(x)
	case leads(x.Kind):
		w.writePostfix(x)
	case x.Kind == api.XNeg:
		w.sign("-")
		w.writePart(x.Parts[0], levelUnary)
	case x.Kind == api.XNot:
		w.word("not")
		w.writePart(x.Parts[0], levelUnary)
	default:
		w.writePrimary(x)
	}
}

// writePart writes x at a place that asks for that level.
func (w *exprWriter) writePart(x api.Expr, asked int) {
	if level(x.Kind) < asked {
		w.writeAside(x)
		return
	}
	w.writeExpr(x)
}

func (w *exprWriter) writeAside(x api.Expr) {
	w.between("(", func() { w.writeExpr(x) }, ")")
}

func (w *exprWriter) writeTwoSided(x api.Expr) {
	left := level(x.Kind)
	right := left + 1
	if x.Kind == api.XEq || x.Kind == api.XLess { // they don't stand beside one another
		left = right
	}
	w.writePart(x.Parts[0], left)
	w.writeOperator(x.Kind)
	w.writePart(x.Parts[1], right)
}

func (w *exprWriter) writeOperator(kind int) {
	switch kind {
	case api.XMul:
		w.sign("*")
	case api.XAdd:
		w.sign("+")
	case api.XSub:
		w.sign("-")
	case api.XEq:
		w.sign("==")
	case api.XLess:
		w.sign("<")
	case api.XAnd:
		w.word("and")
	case api.XOr:
		w.word("or")
	}
}

func (w *exprWriter) writePostfix(x api.Expr) {
	if x.Kind == api.XApply && x.Parts[0].Kind == api.XField { // bare, it would be read as an XCall
		w.writeAside(x.Parts[0])
	} else {
		w.writePart(x.Parts[0], levelPostfix)
	}
	switch x.Kind {
	case api.XTo:
		w.word("to")
		w.writeType(x.T[0])
	case api.XField:
		w.sign(".")
		w.name(x.S)
	case api.XCall:
		w.sign(".")
		w.name(x.S)
		w.writeArgs(x.Parts[1:])
	case api.XApply:
		w.writeArgs(x.Parts[1:])
	}
}

func (w *exprWriter) writeArgs(l []api.Expr) {
	w.between("(", func() {
		w.commas(len(l), func(i int) { w.writePart(l[i], levelAny) })
	}, ")")
}

func (w *exprWriter) writePrimary(x api.Expr) {
	switch x.Kind {
	case api.XInt:
		w.number(x.N)
	case api.XText:
		w.quoted(x.S)
	case api.XBool:
		w.writeBool(x.N)
	case api.XVar:
		w.name(x.S)
	case api.XSelf:
		w.word("self")
	case api.XNil:
		w.word("nil")
		w.writeType(x.T[0])
	case api.XRec:
		w.writeLiteral(x)
	case api.XNew:
		w.word("new")
		w.writeLiteral(x)
	}
}

func (w *exprWriter) writeBool(n int) {
	if n == 0 {
		w.word("false")
	} else {
		w.word("true")
	}
}

func (w *exprWriter) writeLiteral(x api.Expr) {
	w.typeName(x.S)
	w.between("{", func() {
		w.commas(len(x.Names), func(i int) {
			w.name(x.Names[i])
			w.sign(":")
			w.writePart(x.Parts[i], levelAny)
		})
	}, "}")
}
