package value

import (
	"coil/api"
	"coil/lex"
)

// list stands for parts in memory: values that share parts are too many to be gone through one by one.
type list struct {
	first  *api.Value
	length int
}

// listOf is the list of parts, of which there is at least one.
func listOf(parts []api.Value) list { return list{&parts[0], len(parts)} }

// judge tells which values are right.
type judge struct {
	Shapes
	met map[list]int           // open or done
	ask func(v api.Value) bool // what else is asked of them
}

// newJudge asks nothing else.
func newJudge(s Shapes) judge {
	return judge{Shapes: s, met: map[list]int{}, ask: func(api.Value) bool { return true }}
}

const (
	open = 1 + iota // being gone through: met again, it is a part of itself
	done            // all of its values are right
)

func (j judge) right(v *api.Value) bool {
	return fits(v, j.at(v.Class)) && j.allRight(v.Parts) && j.ask(*v)
}

func (j judge) allRight(parts []api.Value) bool {
	if len(parts) == 0 {
		return true
	}
	l := listOf(parts)
	if state := j.met[l]; state != 0 {
		return state == done
	}
	j.met[l] = open
	for i := range parts {
		if !j.right(&parts[i]) {
			return false
		}
	}
	j.met[l] = done
	return true
}

// fits: is v as its kind and a class of that shape ask, but for what its parts are in themselves?
func fits(v *api.Value, s shape) bool {
	switch v.Kind {
	case api.VInt:
		return s.kind == api.TInt && v.S == "" && len(v.Parts) == 0
	case api.VBool:
		return s.kind == api.TBool && (v.N == 0 || v.N == 1) && v.S == "" && len(v.Parts) == 0
	case api.VText:
		return s.kind == api.TText && v.N == 0 && isText(v.S) && len(v.Parts) == 0
	case api.VRec:
		return s.kind == api.TRec && v.N == 0 && v.S == "" && len(v.Parts) == len(s.children)
	case api.VPtr:
		return s.kind == api.TPtr && v.N == 0 && v.S == "" && pointsTo(s.children[0], v.Parts)
	case api.VFn:
		return s.kind == api.TFn && v.N == 0 && isName(v.S) && len(v.Parts) == 0
	}
	return false
}

// pointsTo: are these the parts of a pointer to that class?
func pointsTo(class int, parts []api.Value) bool {
	if len(parts) == 0 {
		return true
	}
	return len(parts) == 1 && parts[0].Kind == api.VRec && parts[0].Class == class
}

func isText(s string) bool {
	if len(s) > api.MaxString {
		return false
	}
	for i := range len(s) {
		if s[i] != 10 && (s[i] < 32 || s[i] > 126) {
			return false
		}
	}
	return true
}

func isName(s string) bool {
	_, why := lex.Join(api.Token{Kind: api.KName, S: s})
	return why == api.OK
}
