package syntax

import (
	"coil/api"
	"coil/lex"
)

// enough tokens are too long a text, of a byte each and a blank between each two: those behind them turn nothing.
const enough = api.MaxText/2 + 1

// writer gathers the tokens of a text.
type writer struct {
	tokens []api.Token
}

func (w *writer) put(t api.Token) {
	if len(w.tokens) < enough {
		w.tokens = append(w.tokens, t)
	}
}

func (w *writer) word(s string) { w.put(api.Token{Kind: api.KWord, S: s}) }

func (w *writer) sign(s string) { w.put(api.Token{Kind: api.KSign, S: s}) }

func (w *writer) name(s string) { w.put(api.Token{Kind: api.KName, S: s}) }

func (w *writer) typeName(s string) { w.put(api.Token{Kind: api.KType, S: s}) }

func (w *writer) number(n int) { w.put(api.Token{Kind: api.KNumber, N: n}) }

func (w *writer) quoted(s string) { w.put(api.Token{Kind: api.KText, S: s}) }

// commas writes n things with a comma between each two.
func (w *writer) commas(n int, thing func(i int)) {
	for i := range n {
		if i > 0 {
			w.sign(",")
		}
		thing(i)
	}
}

// between writes things between two signs.
func (w *writer) between(open string, things func(), end string) {
	w.sign(open)
	things()
	w.sign(end)
}

// text joins what was written. The refusals are lex.Join's: too long ahead of too many.
func (w *writer) text() (string, api.Errno) { return lex.Join(w.tokens...) }
