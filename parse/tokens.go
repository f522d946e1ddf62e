package parse

import (
	"slices"

	"coil/api"
	"coil/lex"
)

// outermost is the depth of what stands in nothing else of its sort.
const outermost = 1

// tokenReader hands out the tokens of a text. Its first refusal stays and takes the tokens behind it away,
// so that all reading comes to an end by itself: behind the first wrong token nothing matters.
type tokenReader struct {
	tokens  []api.Token // those that are not read yet
	end     int         // the place behind the text
	refusal *lex.Refusal
}

func (r *tokenReader) left() bool { return len(r.tokens) > 0 }

// peek answers the next token without reading it: a zero one, which is none, at the end.
func (r *tokenReader) peek() api.Token {
	if !r.left() {
		return api.Token{}
	}
	return r.tokens[0]
}

func (r *tokenReader) take() api.Token {
	t := r.peek()
	if r.left() {
		r.tokens = r.tokens[1:]
	}
	return t
}

func (r *tokenReader) refuse(at int, why api.Errno) {
	if r.refusal == nil {
		r.refusal = &lex.Refusal{Place: api.Place{At: at}, Why: why}
	}
	r.tokens = nil
}

// wrong refuses the next token, or that there is none.
func (r *tokenReader) wrong() {
	if r.left() {
		r.refuse(r.peek().Where(), api.ErrToken)
	} else {
		r.refuse(r.end, api.ErrEnd)
	}
}

// enter: may what the next token begins stand here, so deep? If not, it is refused: a wrong token ahead of one that is too deep.
func (r *tokenReader) enter(begins func(api.Token) bool, depth int) bool {
	t := r.peek()
	if !begins(t) {
		r.wrong()
		return false
	}
	if depth > api.MaxNest {
		r.refuse(t.Where(), api.ErrNest)
		return false
	}
	return true
}

// accept reads the next token, if it is that sign or word.
func (r *tokenReader) accept(mark string) bool {
	if !isMark(r.peek(), mark) {
		return false
	}
	r.take()
	return true
}

func (r *tokenReader) need(mark string) {
	if !r.accept(mark) {
		r.wrong()
	}
}

func (r *tokenReader) needKind(kind int) api.Token {
	if r.peek().Kind != kind {
		r.wrong()
	}
	return r.take()
}

func (r *tokenReader) name() string { return r.needKind(api.KName).S }

func (r *tokenReader) typeName() string { return r.needKind(api.KType).S }

// newName reads a name that is none of known.
func (r *tokenReader) newName(known []string) string {
	t := r.needKind(api.KName)
	if slices.Contains(known, t.S) {
		r.refuse(t.Where(), api.ErrTwice)
	}
	return t.S
}

// closed reads the sign that closes a list, if it stands here. A list is over, too, when no token is left for it.
func (r *tokenReader) closed(mark string) bool {
	if !r.left() {
		r.wrong()
	}
	return r.accept(mark) || !r.left()
}

// commas reads things with a comma between each two, or none, and the sign that closes them.
func (r *tokenReader) commas(end string, thing func()) {
	if r.accept(end) {
		return
	}
	thing()
	for r.accept(",") {
		thing()
	}
	r.need(end)
}

// marked: is t a sign or a word? A text that says the same bytes isn't.
func marked(t api.Token) bool { return t.Kind == api.KSign || t.Kind == api.KWord }

// isMark: is t one of these signs and words?
func isMark(t api.Token, marks ...string) bool { return marked(t) && slices.Contains(marks, t.S) }
