package value

import (
	"strconv"
	"strings"

	"coil/api"
)

// writer writes right values, and stops soon after there is too much.
type writer struct {
	strings.Builder
	Shapes
}

func (w *writer) full() bool { return w.Builder.Len() > api.MaxString }

func (w *writer) write(v *api.Value) {
	switch v.Kind {
	case api.VInt:
		w.WriteString(strconv.Itoa(v.N))
	case api.VBool:
		w.WriteString(strconv.FormatBool(v.N == 1))
	case api.VText:
		w.WriteString(v.S)
	case api.VRec:
		w.writeRecord(v)
	case api.VPtr:
		w.writePointer(v)
	case api.VFn:
		w.WriteString("fn ")
		w.WriteString(v.S)
	}
}

func (w *writer) writeRecord(v *api.Value) {
	names := w.at(v.Class).names
	w.WriteByte('{')
	for i := range v.Parts {
		if w.full() {
			return
		}
		if i > 0 {
			w.WriteString(", ")
		}
		w.WriteString(names[i])
		w.WriteString(": ")
		w.write(&v.Parts[i])
	}
	w.WriteByte('}')
}

func (w *writer) writePointer(v *api.Value) {
	if len(v.Parts) == 0 {
		w.WriteString("nil")
		return
	}
	w.WriteByte('&')
	w.write(&v.Parts[0])
}
