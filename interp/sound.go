package interp

import (
	"coil/api"
	"coil/value"
)

// takes: is there a function of that name that takes these arguments?
func (r *run) takes(name string, args []api.Value) bool {
	function, ok := r.checked.Func(name)
	if !ok {
		return false
	}
	head := r.Children(function)
	params := head[:len(head)-1] // the last one is the result
	return len(args) == len(params) && value.Every(r.Classes(), r.sound, args...) && r.fit(args, params)
}

// sound asks of a right value, but for its parts' own sake, whether the program could have made it.
func (r *run) sound(v api.Value) bool {
	switch v.Kind {
	case api.VRec:
		return r.fit(v.Parts, r.Children(v.Class))
	case api.VFn:
		function, ok := r.checked.Func(v.S)
		return ok && r.below(function, v.Class)
	}
	return true
}

// fit: is each value's class below the one of its place?
func (r *run) fit(values []api.Value, classes []int) bool {
	for i, v := range values {
		if !r.below(v.Class, classes[i]) {
			return false
		}
	}
	return true
}
