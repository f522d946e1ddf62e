package syntax

import "coil/api"

// rightStmts: are all of them right, and at most room deep?
func rightStmts(l []api.Stmt, room int) bool {
	for _, s := range l {
		if !rightStmt(s, room) {
			return false
		}
	}
	return true
}

func rightStmt(s api.Stmt, room int) bool {
	if room == 0 || !shapedStmt(s) || !rightTypes(s.T, api.MaxNest) || !rightExpr(s.X[0], api.MaxNest) {
		return false
	}
	return rightStmts(s.Body, room-1) && rightStmts(s.Else, room-1)
}

// shapedStmt: has s the fields of its kind and no other? What they hold is counted alone, but for its Name.
func shapedStmt(s api.Stmt) bool {
	if len(s.X) != 1 {
		return false
	}
	named, types, body, others := s.Name != "", len(s.T), len(s.Body), len(s.Else)
	switch s.Kind {
	case api.SLet:
		return types <= 1 && body == 0 && others == 0 && isToken(api.KName, s.Name)
	case api.SSet:
		return types == 0 && body == 0 && others == 0 && isToken(api.KName, s.Name)
	case api.SPrint, api.SReturn, api.SDo:
		return !named && types == 0 && body == 0 && others == 0
	case api.SIf:
		return !named && types == 0
	case api.SWhile:
		return !named && types == 0 && others == 0
	}
	return false
}

// stmtWriter writes right statements.
type stmtWriter struct {
	exprWriter
}

func (w *stmtWriter) writeStmts(l []api.Stmt) {
	for _, s := range l {
		w.writeStmt(s)
	}
}

func (w *stmtWriter) writeStmt(s api.Stmt) {
	switch s.Kind {
	case api.SIf:
		w.word("if")
		w.writeExpr(s.X[0])
		w.writeBlock(s.Body)
		if len(s.Else) > 0 {
			w.word("else")
			w.writeBlock(s.Else)
		}
	case api.SWhile:
		w.word("while")
		w.writeExpr(s.X[0])
		w.writeBlock(s.Body)
	default:
		w.writeSimple(s)
	}
}

// writeSimple writes a statement that ends with a semicolon behind its expression.
func (w *stmtWriter) writeSimple(s api.Stmt) {
	switch s.Kind {
	case api.SLet:
		w.word("let")
		w.name(s.Name)
		for _, t := range s.T {
			w.writeType(t)
		}
		w.sign("=")
	case api.SSet:
		w.name(s.Name)
		w.sign("=")
	case api.SPrint:
		w.word("print")
	case api.SReturn:
		w.word("return")
	}
	w.writeExpr(s.X[0])
	w.sign(";")
}

func (w *stmtWriter) writeBlock(l []api.Stmt) {
	w.between("{", func() { w.writeStmts(l) }, "}")
}
