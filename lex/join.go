package lex

import (
	"strconv"
	"strings"

	"coil/api"
)

// Join writes tokens as a text that is cut into them again, one blank between each two.
func Join(tokens ...api.Token) (string, api.Errno) {
	for _, t := range tokens {
		if !sound(t) {
			return "", api.ErrArg
		}
	}
	var b strings.Builder
	for i, t := range tokens {
		if i > 0 {
			b.WriteByte(' ')
		}
		if b.Len()+len(t.S) > api.MaxText { // ahead of writing, so that no great text is written in vain
			return "", api.ErrLong
		}
		writeToken(&b, t)
		if b.Len() > api.MaxText {
			return "", api.ErrLong
		}
	}
	if len(tokens) > api.MaxItems {
		return "", api.ErrMany
	}
	return b.String(), api.OK
}

// sound: is t, but for its place, a token that can be cut?
func sound(t api.Token) bool {
	switch t.Kind {
	case api.KName, api.KType, api.KWord, api.KSign:
		return t.N == 0 && cutsItself(t)
	case api.KNumber:
		return t.S == "" && t.N >= 0
	case api.KText:
		return t.N == 0 && sayable(t.S)
	}
	return false
}

// cutsItself: is what t says cut as one token of t's kind?
func cutsItself(t api.Token) bool {
	if t.S == "" || !begins(t.S[0]) {
		return false
	}
	got, end, refusal := cut(t.S, 0)
	return refusal == nil && end == len(t.S) && got.Kind == t.Kind
}

// sayable: can s stand in a text, by an escape where it must?
func sayable(s string) bool {
	for i := range len(s) {
		if s[i] != '\n' && !plain(s[i]) {
			return false
		}
	}
	return true
}

func writeToken(b *strings.Builder, t api.Token) {
	switch t.Kind {
	case api.KNumber:
		b.WriteString(strconv.Itoa(t.N))
	case api.KText:
		writeText(b, t.S)
	default:
		b.WriteString(t.S)
	}
}

func writeText(b *strings.Builder, s string) {
	b.WriteByte('"')
	for i := range len(s) {
		switch s[i] {
		case '\n':
			b.WriteString("\\n")
		case '"', '\\':
			b.WriteByte('\\')
			b.WriteByte(s[i])
		default:
			b.WriteByte(s[i])
		}
	}
	b.WriteByte('"')
}
