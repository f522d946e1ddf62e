// Package lex: tokens with places: see doc/01-lex.md.
package lex

import (
	"iter"
	"strconv"

	"coil/api"
)

// Refusal says why a text is refused, and where.
type Refusal struct {
	api.Place
	Why api.Errno
}

// Error tells the number and the place in words.
func (r *Refusal) Error() string {
	return r.Why.Error() + " at " + strconv.Itoa(r.Where())
}

// Unwrap answers Why, so that errors.Is and errors.As find the number.
func (r *Refusal) Unwrap() error { return r.Why }

// Tokens cuts src into its tokens, or answers a *Refusal at the first place at which it goes wrong.
func Tokens(src string) ([]api.Token, error) {
	c := cutter{src: src}
	var list []api.Token
	for _, t := range c.each {
		list = append(list, t)
	}
	if c.refusal != nil {
		return nil, c.refusal
	}
	return list, nil
}

// All hands out the tokens of src with their numbers, up to where Tokens refuses.
func All(src string) iter.Seq2[int, api.Token] {
	return func(yield func(int, api.Token) bool) {
		if yield == nil { // no call panics, whatever it is given
			return
		}
		c := cutter{src: src} // a new one each time, so that it may be ranged over again
		c.each(yield)
	}
}

// Words lists the words of the language, which are no names.
func Words() []string {
	return []string{
		"type", "method", "func", "main", "interface", "embed",
		"int", "bool", "text", "fn",
		"let", "print", "if", "else", "while", "return",
		"nil", "new", "to", "and", "or", "not", "true", "false", "self",
	}
}
