package session

import (
	"coil/api"
	"coil/canon"
	"coil/check"
	"coil/graph"
	"coil/interp"
	"coil/lower"
	"coil/machine"
	"coil/parse"
)

// loaded is what a session works on.
type loaded struct {
	classes *canon.Classes // of the set; none, if nothing is loaded
	program *program       // none, if no program is
}

// program is one that may be run.
type program struct {
	code   *lower.Code
	again  func(fuel int) (api.Outcome, machine.Counts) // runs it with the session's cache
	counts machine.Counts                               // of all these runs
}

// set answers the classes of the set.
func (l *loaded) set() (*canon.Classes, error) {
	if l.classes == nil {
		return nil, api.ErrNone
	}
	return l.classes, nil
}

// running answers the program.
func (l *loaded) running() (*program, error) {
	if l.program == nil {
		return nil, api.ErrNone
	}
	return l.program, nil
}

// loadDefs takes a set of definitions in place of all that was loaded.
func (l *loaded) loadDefs(text string) ([]string, error) {
	defs, methods, err := parse.Defs(text)
	if err != nil {
		return nil, err
	}
	set, err := classesOf(defs, methods)
	if err != nil {
		return nil, err
	}
	*l = loaded{classes: set}
	return numbers(set.Len()), nil
}

// loadProgram takes a program and its definitions in place of all that was loaded.
func (l *loaded) loadProgram(text string) ([]string, error) {
	tree, err := parse.Program(text)
	if err != nil {
		return nil, err
	}
	checked, err := check.Program(tree)
	if err != nil {
		return nil, err
	}
	p, err := prepared(checked)
	if err != nil {
		return nil, err
	}
	set, err := classesOf(tree.Defs, tree.Methods)
	if err != nil {
		return nil, err
	}
	*l = loaded{classes: set, program: p}
	return numbers(checked.Classes().Len()), nil
}

func classesOf(defs []api.Def, methods []api.Code) (*canon.Classes, error) {
	g, err := graph.New(defs, methods...)
	if err != nil {
		return nil, err
	}
	return canon.New(g), nil
}

// prepared has a program ready to be run, with an empty cache.
func prepared(c *check.Checked) (*program, error) {
	code, why := lower.Program(c)
	if why != api.OK {
		return nil, why
	}
	again, why := machine.Again(code, api.MaxTabs)
	if why != api.OK {
		return nil, why
	}
	return &program{code: code, again: again}, nil
}

func (p *program) runByNames(fuel int) api.Outcome { return interp.Run(p.code.Checked(), fuel) }

func (p *program) runByTables(fuel int) api.Outcome {
	o, counts := p.again(fuel)
	p.counts = counts
	return o
}
