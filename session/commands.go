package session

import (
	"coil/api"
	"coil/canon"
	"coil/parse"
)

// command does what a line says, by all that stands behind its word, and answers what is said behind ok. That a line is not
// of its form goes ahead of what it needs, and that ahead of all other refusals.
type command func(s *Session, rest string) ([]string, error)

// commands are found by their words.
func commands() map[string]command {
	return map[string]command{
		"defs":    withText((*Session).loadDefs),
		"program": withText((*Session).loadProgram),
		"id":      withTypes(one, ids),
		"ids":     withTypes(two, ids),
		"below":   withTypes(two, below),
		"why":     withTypes(two, added(why)),
		"differ":  withTypes(two, added(differ)),
		"label":   withTypes(one, added(label)),
		"find":    find,
		"methods": withTypes(one, added(methods)),
		"classes": alone(classes),
		"table":   withTypes(two, added(table)),
		"run":     withNumber((*program).runByNames),
		"go":      withNumber((*program).runByTables),
		"counts":  alone(ofProgram((*program).told)),
		"sites":   alone(ofProgram((*program).sites)),
		"casts":   alone(ofProgram((*program).casts)),
	}
}

// withText takes all that stands behind the word's blank.
func withText(do func(s *Session, text string) ([]string, error)) command {
	return func(s *Session, rest string) ([]string, error) { return do(s, textOf(rest)) }
}

// asked answers what is asked of types.
type asked func(c *canon.Classes, types []api.Type) ([]string, error)

// withTypes asks of the types whose texts stand behind the word's blank.
func withTypes(part func(text string) ([]string, bool), ask asked) command {
	return func(s *Session, rest string) ([]string, error) {
		texts, ok := part(textOf(rest))
		if !ok {
			return nil, api.ErrLine
		}
		set, err := s.set()
		if err != nil {
			return nil, err
		}
		types, err := parsed(texts)
		if err != nil {
			return nil, err
		}
		return ask(set, types)
	}
}

func parsed(texts []string) ([]api.Type, error) {
	types := make([]api.Type, len(texts))
	for i, text := range texts {
		t, err := parse.Type(text)
		if err != nil {
			return nil, err
		}
		types[i] = t
	}
	return types, nil
}

// find asks of the type whose text stands behind the next word, a name.
func find(s *Session, rest string) ([]string, error) {
	name, rest := cutWord(rest)
	if name == "" {
		return nil, api.ErrLine
	}
	return withTypes(one, added(lookup(name)))(s, rest)
}

// alone lets nothing stand behind the word.
func alone(do func(s *Session) ([]string, error)) command {
	return func(s *Session, rest string) ([]string, error) {
		if word, _ := cutWord(rest); word != "" {
			return nil, api.ErrLine
		}
		return do(s)
	}
}

// ofProgram needs the program that is loaded.
func ofProgram(do func(p *program) []string) func(s *Session) ([]string, error) {
	return func(s *Session) ([]string, error) {
		p, err := s.running()
		if err != nil {
			return nil, err
		}
		return do(p), nil
	}
}

// withNumber runs the program that is loaded, with the number behind the word as fuel.
func withNumber(run func(p *program, fuel int) api.Outcome) command {
	return func(s *Session, rest string) ([]string, error) {
		word, more := cutWord(rest)
		fuel, ok := number(word)
		if further, _ := cutWord(more); !ok || further != "" {
			return nil, api.ErrLine
		}
		p, err := s.running()
		if err != nil {
			return nil, err
		}
		return outcome(run(p, fuel))
	}
}
