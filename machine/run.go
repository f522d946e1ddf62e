package machine

import (
	"slices"

	"coil/api"
	"coil/lower"
)

// run is one run of the main one.
type run struct {
	*machine
	*frame              // the innermost call, or the main one's; none, when that one has returned
	outer   []*frame    // those in which it is; outside of the main one is none
	stack   []api.Value // operands of all of them
	fuel    int
	outcome api.Outcome // as far as it has come
	size    int         // of the output: its texts' bytes, and one more for each
}

// frame is what an open call has.
type frame struct {
	block []lower.Instr
	at    int // the next instruction
	self  api.Value
	slots []api.Value
}

// enter has a block run next.
func (r *run) enter(block int, self api.Value, args []api.Value) {
	b := r.blocks[block]
	f := &frame{block: b.Instrs, self: self, slots: make([]api.Value, b.Slots)}
	copy(f.slots, args)
	r.outer = append(r.outer, r.frame)
	r.frame = f
}

// leave goes on where the innermost call was made; what it returns lies on the stack.
func (r *run) leave() {
	last := len(r.outer) - 1
	r.frame = r.outer[last]
	r.outer = r.outer[:last]
}

// toEnd runs till the main one returns, and answers why it doesn't.
func (r *run) toEnd() api.Errno {
	for r.frame != nil {
		i := r.block[r.at]
		r.at++
		if why := r.do(i); why != api.OK {
			return why
		}
	}
	text, why := r.shapes.Text(r.pop())
	r.outcome.Value = text
	return why
}

// call enters a block, which is counted and may be one too many.
func (r *run) call(block int, self api.Value, args []api.Value) api.Errno {
	if why := r.step(); why != api.OK {
		return why
	}
	if len(r.outer) > api.MaxCalls { // the main one is no call
		return api.ErrCalls
	}
	r.enter(block, self, args)
	return api.OK
}

// step counts a statement or a call, ahead of it.
func (r *run) step() api.Errno {
	if r.outcome.Steps == r.fuel {
		return api.ErrFuel
	}
	r.outcome.Steps++
	return api.OK
}

// print adds a value's text to the output.
func (r *run) print(v api.Value) api.Errno {
	text, why := r.shapes.Text(v)
	if why != api.OK {
		return why
	}
	r.size += len(text) + 1
	if r.size > api.MaxOut {
		return api.ErrBig
	}
	r.outcome.Out = append(r.outcome.Out, text)
	return api.OK
}

func (r *run) push(v api.Value) { r.stack = append(r.stack, v) }

func (r *run) top() *api.Value { return &r.stack[len(r.stack)-1] }

func (r *run) pop() api.Value {
	v := *r.top()
	r.stack = r.stack[:len(r.stack)-1]
	return v
}

// take takes operands off, and answers them in a list of their own.
func (r *run) take(n int) []api.Value {
	at := len(r.stack) - n
	l := slices.Clone(r.stack[at:])
	r.stack = r.stack[:at]
	return l
}
