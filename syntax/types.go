package syntax

import (
	"coil/api"
	"coil/lex"
)

// isToken: is s what a token of that kind says? (lex refuses nothing else with ErrArg.)
func isToken(kind int, s string) bool {
	_, e := lex.Join(api.Token{Kind: kind, S: s})
	return e != api.ErrArg
}

// rightNames: are all of them names, and no two the same?
func rightNames(names []string) bool {
	known := map[string]struct{}{}
	for _, s := range names {
		if !isToken(api.KName, s) {
			return false
		}
		known[s] = struct{}{}
	}
	return len(known) == len(names)
}

// rightType: is t right, and at most room deep?
func rightType(t api.Type, room int) bool {
	return room > 0 && shapedType(t) && rightTypes(t.Parts, room-1)
}

func rightTypes(l []api.Type, room int) bool {
	for _, t := range l {
		if !rightType(t, room) {
			return false
		}
	}
	return true
}

// shapedType: has t the fields of its kind and no other? Its parts are looked at only as far as the kind says what they are.
func shapedType(t api.Type) bool {
	names, embeds, parts := len(t.Names), len(t.Embeds), len(t.Parts)
	if t.Kind != api.TName && t.Name != "" {
		return false
	}
	switch t.Kind {
	case api.TInt, api.TBool, api.TText:
		return names == 0 && embeds == 0 && parts == 0
	case api.TName:
		return names == 0 && embeds == 0 && parts == 0 && isToken(api.KType, t.Name)
	case api.TPtr:
		return names == 0 && embeds == 0 && parts == 1
	case api.TRec:
		return names == parts && embeds == parts && rightNames(t.Names)
	case api.TFn:
		return names == 0 && embeds == 0 && parts >= 1
	case api.TIface:
		return names == parts && embeds == 0 && rightNames(t.Names) && functions(t.Parts)
	}
	return false
}

func functions(l []api.Type) bool {
	for _, t := range l {
		if t.Kind != api.TFn {
			return false
		}
	}
	return true
}

// typeWriter writes right types.
type typeWriter struct {
	writer
}

func (w *typeWriter) writeType(t api.Type) {
	switch t.Kind {
	case api.TInt:
		w.word("int")
	case api.TBool:
		w.word("bool")
	case api.TText:
		w.word("text")
	case api.TName:
		w.typeName(t.Name)
	case api.TPtr:
		w.sign("*")
		w.writeType(t.Parts[0])
	case api.TRec:
		w.between("{", func() { w.writeFields(t) }, "}")
	case api.TFn:
		w.word("fn")
		w.writeSignature(t)
	case api.TIface:
		w.word("interface")
		w.between("{", func() { w.writeMethods(t) }, "}")
	}
}

func (w *typeWriter) writeFields(t api.Type) {
	for i, s := range t.Names {
		if t.Embeds[i] {
			w.word("embed")
		}
		w.name(s)
		w.writeType(t.Parts[i])
		w.sign(";")
	}
}

func (w *typeWriter) writeMethods(t api.Type) {
	for i, s := range t.Names {
		w.name(s)
		w.writeSignature(t.Parts[i])
		w.sign(";")
	}
}

// writeSignature writes a function type without its word, as a method of an interface has it.
func (w *typeWriter) writeSignature(fn api.Type) {
	last := len(fn.Parts) - 1
	w.between("(", func() {
		w.commas(last, func(i int) { w.writeType(fn.Parts[i]) })
	}, ")")
	w.writeType(fn.Parts[last])
}
