package lower

import "coil/api"

// Instr is an instruction, one of those below. It works on a stack of values: it takes its operands off, the last one first,
// and lays what it comes to on it.
type Instr interface{ instr() }

// op makes an instruction of what embeds it.
type op struct{}

func (op) instr() {}

// The kinds of operands that stand in instructions.
type (
	// Typed names the class of what is made or asked.
	Typed struct{ Class int }
	// Variable names a variable of the open call: the parameters come first.
	Variable struct{ Slot int }
	// Target names the instruction of the same block at which it goes on.
	Target struct{ To int }
	// Fields names a list of fields' numbers, each among a record's fields in the order of their names.
	Fields struct{ List int }
	// Arguments says how many values are handed to a call; they lie above the one on which it is called.
	Arguments struct{ Count int }
	// Callee names a block.
	Callee struct{ Block int }
	// Sign is the kind of an expression that is written with a sign or word.
	Sign struct{ Kind int }
)

// Values.
type (
	// Const lays a value on the stack.
	Const struct {
		op
		api.Value
	}
	// TooBig ends the run with api.ErrBig: it stands for a text that is longer than a value's may be.
	TooBig struct{ op }
	// Self lays the record on the stack on which the method was called.
	Self struct{ op }
	// Load lays a variable's value on the stack.
	Load struct {
		op
		Variable
	}
	// Store takes a variable's value off.
	Store struct {
		op
		Variable
	}
	// Drop takes a value off.
	Drop struct{ op }
)

// Records.
type (
	// Record takes as many values off as its list has numbers, and makes a record of them: the list says of each, from the
	// undermost on, which field it is.
	Record struct {
		op
		Typed
		Fields
	}
	// Pointer makes a pointer to the record on the stack.
	Pointer struct {
		op
		Typed
	}
	// Field goes from field to field; a pointer on the way is followed.
	Field struct {
		op
		Fields
	}
)

// Calls.
type (
	// Call calls a method whose block is known: of the record to which its fields lead, or to which the pointer there points.
	Call struct {
		op
		Callee
		Fields
		Arguments
	}
	// Dispatch calls a method of an interface, on the value to which its fields lead.
	Dispatch struct {
		op
		Site
		Fields
		Arguments
	}
	// Apply calls the function that is a value on the stack.
	Apply struct {
		op
		Arguments
	}
	// Return ends the call with the value on the stack.
	Return struct{ op }
)

// Signs and words.
type (
	// Cast ends the run with api.ErrDown, unless the class of the value on the stack is below its own. (What goes up always
	// is.)
	Cast struct {
		op
		Typed
	}
	// Unary makes one value of one.
	Unary struct {
		op
		Sign
		Typed
	}
	// Binary makes one value of two.
	Binary struct {
		op
		Sign
		Typed
	}
)

// Ways through a block.
type (
	// Step counts a statement.
	Step struct{ op }
	// Print adds a value's text to the output.
	Print struct{ op }
	// Jump goes on at its target.
	Jump struct {
		op
		Target
	}
	// Unless takes a bool off, and goes on at its target, if that is false.
	Unless struct {
		op
		Target
	}
	// Decided goes on at its target, if the bool on the stack has that N; else it takes it off.
	Decided struct {
		op
		Target
		N int
	}
)
