package interp

import (
	"coil/api"
	"coil/check"
	"coil/value"
)

// field answers a field of a value.
func (f *frame) field(x *check.Expr, v api.Value) (api.Value, api.Errno) {
	m, _ := f.members.Lookup(x.Parts[0].Class, x.S)
	return f.shapes.Walk(v, append(m.Path, x.S)...)
}

// method calls a method of a value.
func (f *frame) method(x *check.Expr, v api.Value) (api.Value, api.Errno) {
	args, why := f.all(x.Parts[1:])
	if why != api.OK {
		return api.Value{}, why
	}
	self, owner, why := f.holder(x, v)
	if why != api.OK {
		return api.Value{}, why
	}
	return f.call(f.codes[key{owner, x.S}], self, args)
}

// holder finds the record that has the method, and its owner: by the class that is known of v, and, where an interface has
// the method, by the own class of the value there.
func (f *frame) holder(x *check.Expr, v api.Value) (api.Value, string, api.Errno) {
	m, _ := f.members.Lookup(x.Parts[0].Class, x.S)
	v, why := f.shapes.Walk(v, m.Path...)
	for why == api.OK && m.Kind == api.MIface {
		m, _ = f.members.Lookup(v.Class, x.S)
		v, why = f.shapes.Walk(v, m.Path...)
	}
	if why != api.OK {
		return api.Value{}, "", why
	}
	self, why := value.Followed(v)
	return self, m.Owner, why
}

// apply calls a function.
func (f *frame) apply(x *check.Expr, v api.Value) (api.Value, api.Errno) {
	args, why := f.all(x.Parts[1:])
	if why != api.OK {
		return api.Value{}, why
	}
	return f.call(f.codes[key{name: v.S}], api.Value{}, args)
}
