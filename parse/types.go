package parse

import "coil/api"

// typeReader reads types.
type typeReader struct {
	tokenReader
}

func beginsType(t api.Token) bool {
	return t.Kind == api.KType || isMark(t, "int", "bool", "text", "*", "{", "fn", "interface")
}

// beginsSignature: the word fn is read ahead of it, and a method of an interface has none.
func beginsSignature(t api.Token) bool { return isMark(t, "(") }

func (r *typeReader) readType(depth int) api.Type {
	if !r.enter(beginsType, depth) {
		return api.Type{}
	}
	t := r.take()
	if t.Kind == api.KType {
		return api.Type{Kind: api.TName, Name: t.S}
	}
	switch t.S {
	case "int":
		return api.Type{Kind: api.TInt}
	case "bool":
		return api.Type{Kind: api.TBool}
	case "text":
		return api.Type{Kind: api.TText}
	case "*":
		return api.Type{Kind: api.TPtr, Parts: []api.Type{r.readType(depth + 1)}}
	case "{":
		return r.readRecord(depth)
	case "fn":
		return r.readSignature(depth)
	}
	return r.readInterface(depth)
}

// readRecord reads a record behind its brace.
func (r *typeReader) readRecord(depth int) api.Type {
	t := api.Type{Kind: api.TRec}
	for !r.closed("}") {
		t.Embeds = append(t.Embeds, r.accept("embed"))
		t.Names = append(t.Names, r.newName(t.Names))
		t.Parts = append(t.Parts, r.readType(depth+1))
		r.need(";")
	}
	return t
}

// readInterface reads an interface behind its word.
func (r *typeReader) readInterface(depth int) api.Type {
	t := api.Type{Kind: api.TIface}
	r.need("{")
	for !r.closed("}") {
		t.Names = append(t.Names, r.newName(t.Names))
		t.Parts = append(t.Parts, r.readSignature(depth+1))
		r.need(";")
	}
	return t
}

// readSignature reads a function type without its word.
func (r *typeReader) readSignature(depth int) api.Type {
	if !r.enter(beginsSignature, depth) {
		return api.Type{}
	}
	r.take()
	t := api.Type{Kind: api.TFn}
	part := func() { t.Parts = append(t.Parts, r.readType(depth+1)) }
	r.commas(")", part)
	part()
	return t
}
