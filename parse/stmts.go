package parse

import "coil/api"

// stmtReader reads statements. The depths of types and expressions begin anew in each of them.
type stmtReader struct {
	exprReader
}

func beginsStmt(t api.Token) bool {
	return beginsExpr(t) || isMark(t, "let", "print", "if", "while", "return")
}

// readStmts reads statements up to the last token.
func (r *stmtReader) readStmts() []api.Stmt {
	var l []api.Stmt
	for r.left() {
		l = append(l, r.readStmt(outermost))
	}
	return l
}

// readBlock reads a block whose statements stand that deep.
func (r *stmtReader) readBlock(depth int) []api.Stmt {
	var l []api.Stmt
	r.need("{")
	for !r.closed("}") {
		l = append(l, r.readStmt(depth))
	}
	return l
}

func (r *stmtReader) readStmt(depth int) api.Stmt {
	if !r.enter(beginsStmt, depth) {
		return api.Stmt{}
	}
	s := api.Stmt{Place: r.peek().Place}
	switch {
	case r.accept("if"):
		s.Kind = api.SIf
		r.readCondition(&s, depth)
		if r.accept("else") {
			s.Else = r.readBlock(depth + 1)
		}
	case r.accept("while"):
		s.Kind = api.SWhile
		r.readCondition(&s, depth)
	default:
		r.readSimple(&s)
	}
	return s
}

// readCondition reads the expression and the first block of s.
func (r *stmtReader) readCondition(s *api.Stmt, depth int) {
	s.X = []api.Expr{r.readExpr(outermost)}
	s.Body = r.readBlock(depth + 1)
}

// readSimple reads a statement that ends with a semicolon behind its expression.
func (r *stmtReader) readSimple(s *api.Stmt) {
	switch {
	case r.accept("let"):
		s.Kind = api.SLet
		s.Name = r.name()
		if !isMark(r.peek(), "=") {
			s.T = []api.Type{r.readType(outermost)}
		}
		r.need("=")
	case r.setsName():
		s.Kind = api.SSet
		s.Name = r.name()
		r.need("=")
	case r.accept("print"):
		s.Kind = api.SPrint
	case r.accept("return"):
		s.Kind = api.SReturn
	default:
		s.Kind = api.SDo
	}
	s.X = []api.Expr{r.readExpr(outermost)}
	r.need(";")
}

// setsName: does a name stand here with = behind it? An expression may begin with a name, too.
func (r *stmtReader) setsName() bool {
	return len(r.tokens) > 1 && r.tokens[0].Kind == api.KName && isMark(r.tokens[1], "=")
}
