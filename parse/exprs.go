package parse

import "coil/api"

// The levels of the two-sided kinds, from the one that binds least on; those behind the last one are one-sided.
const (
	levelOr = 1 + iota
	levelAnd
	levelCompare
	levelSum
	levelProduct
)

// operator answers the kind that a token between two parts makes, and its level: 0, if it makes none.
func operator(t api.Token) (kind, level int) {
	if !marked(t) {
		return 0, 0
	}
	switch t.S {
	case "or":
		return api.XOr, levelOr
	case "and":
		return api.XAnd, levelAnd
	case "==":
		return api.XEq, levelCompare
	case "<":
		return api.XLess, levelCompare
	case "+":
		return api.XAdd, levelSum
	case "-":
		return api.XSub, levelSum
	case "*":
		return api.XMul, levelProduct
	}
	return 0, 0
}

// exprReader reads expressions.
type exprReader struct {
	typeReader
}

func beginsExpr(t api.Token) bool {
	switch t.Kind {
	case api.KName, api.KType, api.KNumber, api.KText:
		return true
	}
	return isMark(t, "true", "false", "self", "nil", "new", "(", "-", "not")
}

func (r *exprReader) readExpr(depth int) api.Expr { return r.readTwoSided(levelOr, depth) }

// readTwoSided reads an expression of that level or a higher one. A first part is as deep as the whole,
// so that the depth is known ahead of the sign that tells what the whole is.
func (r *exprReader) readTwoSided(level, depth int) api.Expr {
	if level > levelProduct {
		return r.readOneSided(depth)
	}
	x := r.readTwoSided(level+1, depth)
	for {
		kind, its := operator(r.peek())
		if its != level {
			return x
		}
		at := r.take().Place
		x = api.Expr{Place: at, Kind: kind, Parts: []api.Expr{x, r.readTwoSided(level+1, depth+1)}}
		if level == levelCompare { // at most one between two
			return x
		}
	}
}

func (r *exprReader) readOneSided(depth int) api.Expr {
	if !r.enter(beginsExpr, depth) {
		return api.Expr{}
	}
	x := api.Expr{Place: r.peek().Place}
	switch {
	case r.accept("-"):
		x.Kind = api.XNeg
	case r.accept("not"):
		x.Kind = api.XNot
	default:
		return r.readPostfix(depth)
	}
	x.Parts = []api.Expr{r.readOneSided(depth + 1)}
	return x
}

func (r *exprReader) readPostfix(depth int) api.Expr {
	x := r.readPrimary(depth)
	for isMark(r.peek(), ".", "(", "to") {
		x = r.readBehind(x, depth)
	}
	return x
}

// readBehind reads what stands behind a first part and makes a whole with it.
func (r *exprReader) readBehind(first api.Expr, depth int) api.Expr {
	x := api.Expr{Place: r.peek().Place, Parts: []api.Expr{first}}
	switch {
	case r.accept("to"):
		x.Kind = api.XTo
		x.T = []api.Type{r.readType(outermost)}
		return x
	case r.accept("("):
		x.Kind = api.XApply
		return r.readArgs(x, depth)
	}
	r.need(".")
	x.Kind = api.XField
	x.S = r.name()
	if r.accept("(") {
		x.Kind = api.XCall
		return r.readArgs(x, depth)
	}
	return x
}

// readArgs reads the arguments of x, behind their parenthesis.
func (r *exprReader) readArgs(x api.Expr, depth int) api.Expr {
	r.commas(")", func() { x.Parts = append(x.Parts, r.readExpr(depth+1)) })
	return x
}

func (r *exprReader) readPrimary(depth int) api.Expr {
	x := api.Expr{Place: r.peek().Place}
	if r.peek().Kind == api.KType {
		x.Kind = api.XRec
		return r.readLiteral(x, depth)
	}
	t := r.take()
	switch t.Kind {
	case api.KNumber:
		x.Kind, x.N = api.XInt, t.N
	case api.KText:
		x.Kind, x.S = api.XText, t.S
	case api.KName:
		x.Kind, x.S = api.XVar, t.S
	default:
		return r.readMarked(x, t.S, depth)
	}
	return x
}

// readMarked reads a primary that begins with a sign or a word, behind it.
func (r *exprReader) readMarked(x api.Expr, mark string, depth int) api.Expr {
	switch mark {
	case "true":
		x.Kind, x.N = api.XBool, 1
	case "false":
		x.Kind = api.XBool
	case "self":
		x.Kind = api.XSelf
	case "nil":
		x.Kind = api.XNil
		x.T = []api.Type{r.readType(outermost)}
	case "new":
		x.Kind = api.XNew
		return r.readLiteral(x, depth)
	case "(":
		x = r.readExpr(depth + 1) // with its own place: the pair makes no tree
		r.need(")")
	}
	return x
}

func (r *exprReader) readLiteral(x api.Expr, depth int) api.Expr {
	x.S = r.typeName()
	r.need("{")
	r.commas("}", func() {
		x.Names = append(x.Names, r.newName(x.Names))
		r.need(":")
		x.Parts = append(x.Parts, r.readExpr(depth+1))
	})
	return x
}
