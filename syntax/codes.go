package syntax

import "coil/api"

func isMethod(c api.Code) bool { return c.Owner != "" && c.Name != "" }

func isFunc(c api.Code) bool { return c.Owner == "" && c.Name != "" }

func isMain(c api.Code) bool { return c.Owner == "" && c.Name == "" && len(c.Params) == 0 }

func rightCode(c api.Code) bool {
	if c.Owner != "" && !isToken(api.KType, c.Owner) || c.Name != "" && !isToken(api.KName, c.Name) {
		return false
	}
	if !isMethod(c) && !isFunc(c) && !isMain(c) {
		return false
	}
	return rightParams(c.Params) && rightType(c.Result, api.MaxNest) && rightStmts(c.Body, api.MaxNest)
}

func rightParams(l []api.Param) bool {
	names := make([]string, len(l))
	for i, p := range l {
		if !rightType(p.T, api.MaxNest) {
			return false
		}
		names[i] = p.Name
	}
	return rightNames(names)
}

func rightProgram(p api.Program) bool {
	return rightDefs(p.Defs) && rightCodes(p.Methods, isMethod) && rightCodes(p.Funcs, isFunc) &&
		isMain(p.Main) && rightCode(p.Main)
}

func rightDefs(l []api.Def) bool {
	for _, d := range l {
		if !isToken(api.KType, d.Name) || !rightType(d.T, api.MaxNest) {
			return false
		}
	}
	return true
}

// rightCodes: are all of them right, and of the sort that may stand in their list?
func rightCodes(l []api.Code, sort func(api.Code) bool) bool {
	for _, c := range l {
		if !sort(c) || !rightCode(c) {
			return false
		}
	}
	return true
}

// codeWriter writes right codes and programs.
type codeWriter struct {
	stmtWriter
}

func (w *codeWriter) writeCode(c api.Code) {
	switch {
	case isMethod(c):
		w.word("method")
		w.typeName(c.Owner)
		w.sign(".")
		w.name(c.Name)
		w.writeParams(c.Params)
	case isFunc(c):
		w.word("func")
		w.name(c.Name)
		w.writeParams(c.Params)
	default:
		w.word("main")
	}
	w.writeType(c.Result)
	w.writeBlock(c.Body)
}

func (w *codeWriter) writeParams(l []api.Param) {
	w.between("(", func() {
		w.commas(len(l), func(i int) {
			w.name(l[i].Name)
			w.writeType(l[i].T)
		})
	}, ")")
}

func (w *codeWriter) writeProgram(p api.Program) {
	for _, d := range p.Defs {
		w.word("type")
		w.typeName(d.Name)
		w.sign("=")
		w.writeType(d.T)
		w.sign(";")
	}
	for _, c := range p.Methods {
		w.writeCode(c)
	}
	for _, c := range p.Funcs {
		w.writeCode(c)
	}
	w.writeCode(p.Main)
}
