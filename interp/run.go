package interp

import (
	"coil/api"
	"coil/check"
	"coil/member"
	"coil/subtype"
	"coil/value"
)

// key finds a method by its owner and name, a function by its name; the main one has neither.
type key struct{ owner, name string }

// run is what a run keeps beside the variables of its open calls.
type run struct {
	*subtype.Relation
	checked *check.Checked
	outcome api.Outcome // as far as it has come
	shapes  value.Shapes
	members *member.Finder
	codes   map[key]*check.Code
	fuel    int
	open    int // calls
	size    int // of the output: its texts' bytes, and one more for each
}

func newRun(c *check.Checked, fuel int) *run {
	r := &run{
		Relation: subtype.New(c.Classes()),
		checked:  c,
		shapes:   value.ShapesOf(c.Classes()),
		members:  member.NewFinder(c.Classes()),
		codes:    map[key]*check.Code{},
		fuel:     fuel,
	}
	for _, code := range c.Codes() {
		r.codes[key{code.Owner, code.Name}] = &code
	}
	return r
}

// end answers what the run has come to with a value that was returned, or an error.
func (r *run) end(v api.Value, why api.Errno) api.Outcome {
	if why == api.OK {
		r.outcome.Value, why = r.shapes.Text(v)
	}
	r.outcome.Why = why
	return r.outcome
}

// step counts a statement or a call, ahead of it.
func (r *run) step() api.Errno {
	if r.outcome.Steps == r.fuel {
		return api.ErrFuel
	}
	r.outcome.Steps++
	return api.OK
}

// print adds a value's text to the output.
func (r *run) print(v api.Value) api.Errno {
	text, why := r.shapes.Text(v)
	if why != api.OK {
		return why
	}
	r.size += len(text) + 1
	if r.size > api.MaxOut {
		return api.ErrBig
	}
	r.outcome.Out = append(r.outcome.Out, text)
	return api.OK
}

// call has a method or function run, which is counted and may be one too many.
func (r *run) call(code *check.Code, self api.Value, args []api.Value) (api.Value, api.Errno) {
	if why := r.step(); why != api.OK {
		return api.Value{}, why
	}
	if r.open == api.MaxCalls {
		return api.Value{}, api.ErrCalls
	}
	r.open++
	v, why := r.enter(code, self, args)
	r.open--
	return v, why
}

// enter runs the body of a method, a function or the main one.
func (r *run) enter(code *check.Code, self api.Value, args []api.Value) (api.Value, api.Errno) {
	b := body{frame: frame{run: r, self: self, variables: map[string]api.Value{}}}
	for i, name := range code.Params {
		b.variables[name] = args[i]
	}
	_, why := b.block(code.Body)
	return b.result, why
}

func (r *run) below(a, b int) bool {
	ok, _ := r.Below(a, b)
	return ok
}
