package machine

import (
	"coil/api"
	"coil/lower"
	"coil/value"
)

// do carries out an instruction.
func (r *run) do(i lower.Instr) api.Errno {
	switch i := i.(type) {
	case lower.Const:
		r.push(i.Value)
	case lower.TooBig:
		return api.ErrBig
	case lower.Self:
		r.push(r.self)
	case lower.Load:
		r.push(r.slots[i.Slot])
	case lower.Store:
		r.slots[i.Slot] = r.pop()
	case lower.Drop:
		r.pop()
	case lower.Record:
		r.record(i)
	case lower.Pointer:
		r.push(api.Value{Kind: api.VPtr, Class: i.Class, Parts: r.take(1)})
	case lower.Field:
		return r.field(i)
	case lower.Call:
		return r.direct(i)
	case lower.Dispatch:
		return r.dispatch(i)
	case lower.Apply:
		return r.apply(i)
	case lower.Return:
		r.leave()
	case lower.Cast:
		return r.cast(i)
	case lower.Unary:
		r.push(value.Unary(i.Kind, i.Class, r.pop()))
	case lower.Binary:
		return r.binary(i)
	case lower.Step:
		return r.step()
	case lower.Print:
		return r.print(r.pop())
	default:
		r.jump(i)
	}
	return api.OK
}

// jump carries out an instruction that says at which one the block goes on.
func (r *run) jump(i lower.Instr) {
	switch i := i.(type) {
	case lower.Jump:
		r.at = i.To
	case lower.Unless:
		if !value.True(r.pop()) {
			r.at = i.To
		}
	case lower.Decided:
		if r.top().N == i.N {
			r.at = i.To
			return
		}
		r.pop()
	}
}

func (r *run) record(i lower.Record) {
	places := r.lists[i.List]
	v := api.Value{Kind: api.VRec, Class: i.Class, Parts: make([]api.Value, len(places))}
	for n, part := range r.take(len(places)) {
		v.Parts[places[n]] = part
	}
	r.push(v)
}

// field puts the value of a field in place of what has it.
func (r *run) field(i lower.Field) api.Errno {
	v, why := r.walk(r.pop(), i.Fields)
	r.push(v)
	return why
}

// walk goes from field to field, by their numbers.
func (r *run) walk(v api.Value, f lower.Fields) (api.Value, api.Errno) {
	for _, place := range r.lists[f.List] {
		record, why := value.Followed(v)
		if why != api.OK {
			return api.Value{}, why
		}
		v = record.Parts[place]
	}
	return v, api.OK
}

// direct calls a method whose block is known.
func (r *run) direct(i lower.Call) api.Errno {
	args := r.take(i.Count)
	v, why := r.walk(r.pop(), i.Fields)
	if why == api.OK {
		v, why = value.Followed(v)
	}
	if why != api.OK {
		return why
	}
	return r.call(i.Block, v, args)
}

// dispatch calls a method that a table tells.
func (r *run) dispatch(i lower.Dispatch) api.Errno {
	args := r.take(i.Count)
	v, why := r.walk(r.pop(), i.Fields)
	if why != api.OK {
		return why
	}
	self, block, why := r.find(v, i.Site)
	if why != api.OK {
		return why
	}
	return r.call(block, self, args)
}

// apply calls the function that a value is.
func (r *run) apply(i lower.Apply) api.Errno {
	args := r.take(i.Count)
	block, _ := r.code.Number("", r.pop().S)
	return r.call(block, api.Value{}, args)
}

func (r *run) cast(i lower.Cast) api.Errno {
	if below, _ := r.Below(r.top().Class, i.Class); !below {
		return api.ErrDown
	}
	return api.OK
}

func (r *run) binary(i lower.Binary) api.Errno {
	second := r.pop()
	v, why := value.Binary(i.Kind, i.Class, r.pop(), second)
	r.push(v)
	return why
}
