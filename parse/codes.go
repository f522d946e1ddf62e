package parse

import "coil/api"

// codeReader reads codes, definitions and programs.
type codeReader struct {
	stmtReader
}

// items are the definitions and methods of a text.
type items struct {
	defs    []api.Def
	methods []api.Code
}

// readItems reads definitions and methods up to the last token.
func (r *codeReader) readItems() items {
	var l items
	for r.left() {
		switch t := r.peek(); {
		case isMark(t, "type"):
			l.defs = append(l.defs, r.readDef())
		case isMark(t, "method"):
			l.methods = append(l.methods, r.readCode())
		default:
			r.wrong()
		}
	}
	return l
}

func (r *codeReader) readProgram() api.Program {
	var p api.Program
	for {
		switch t := r.peek(); {
		case isMark(t, "type"):
			p.Defs = append(p.Defs, r.readDef())
		case isMark(t, "method"):
			p.Methods = append(p.Methods, r.readCode())
		case isMark(t, "func"):
			p.Funcs = append(p.Funcs, r.readCode())
		default:
			p.Main = r.readCode()
			return p
		}
	}
}

func (r *codeReader) readDef() api.Def {
	d := api.Def{Place: r.peek().Place}
	r.need("type")
	d.Name = r.typeName()
	r.need("=")
	d.T = r.readType(outermost)
	r.need(";")
	return d
}

// readCode reads a method, a function or the main one, by its first word.
func (r *codeReader) readCode() api.Code {
	c := api.Code{Place: r.peek().Place}
	switch {
	case r.accept("method"):
		c.Owner = r.typeName()
		r.need(".")
		c.Name = r.name()
		c.Params = r.readParams()
	case r.accept("func"):
		c.Name = r.name()
		c.Params = r.readParams()
	default:
		r.need("main")
	}
	c.Result = r.readType(outermost)
	c.Body = r.readBlock(outermost)
	return c
}

func (r *codeReader) readParams() []api.Param {
	var l []api.Param
	var names []string
	r.need("(")
	r.commas(")", func() {
		names = append(names, r.newName(names))
		l = append(l, api.Param{Name: names[len(names)-1], T: r.readType(outermost)})
	})
	return l
}
