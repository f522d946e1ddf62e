package lex

import (
	"math"
	"slices"
	"strings"

	"coil/api"
)

// cutter is one walk over a text. The refusal stands here, because what is ranged over hands out tokens alone.
type cutter struct {
	src     string
	refusal *Refusal
}

// each hands out the tokens with their numbers, till yield wants no more or the text goes wrong.
func (c *cutter) each(yield func(int, api.Token) bool) {
	if len(c.src) > api.MaxText {
		c.refusal = refuse(0, api.ErrLong)
		return
	}
	at := skip(c.src, 0)
	for n := 0; at < len(c.src); n++ {
		t, end, refusal := next(c.src, at, n)
		if refusal != nil {
			c.refusal = refusal
			return
		}
		if !yield(n, t) {
			return
		}
		at = skip(c.src, end)
	}
}

func refuse(at int, why api.Errno) *Refusal {
	return &Refusal{Place: api.Place{At: at}, Why: why}
}

// skip answers the first place from at on that is neither in a blank nor in a remark.
func skip(src string, at int) int {
	for at < len(src) {
		switch {
		case isBlank(src[at]):
			at++
		case strings.HasPrefix(src[at:], "//"):
			at = remarkEnd(src, at)
		default:
			return at
		}
	}
	return at
}

func remarkEnd(src string, at int) int {
	n := strings.IndexByte(src[at:], '\n')
	if n < 0 {
		return len(src)
	}
	return at + n
}

// next cuts the token with the number n at at, which is neither a blank nor a remark.
func next(src string, at, n int) (api.Token, int, *Refusal) {
	if !begins(src[at]) {
		return api.Token{}, 0, refuse(at, api.ErrByte)
	}
	if n >= api.MaxItems {
		return api.Token{}, 0, refuse(at, api.ErrMany)
	}
	return cut(src, at)
}

// cut answers the token that begins at at, with a byte with which one may, and the place behind it.
func cut(src string, at int) (api.Token, int, *Refusal) {
	switch b := src[at]; {
	case isDigit(b):
		return cutNumber(src, at)
	case b == '"':
		return cutText(src, at)
	case isSign(b):
		return cutSign(src, at)
	}
	return cutName(src, at)
}

func cutName(src string, at int) (api.Token, int, *Refusal) {
	end := at + 1
	for end < len(src) && inName(src[end]) {
		if end-at == api.MaxName {
			return api.Token{}, 0, refuse(end, api.ErrLong)
		}
		end++
	}
	s := src[at:end]
	return written(nameKind(s), src, at, end), end, nil
}

func nameKind(s string) int {
	switch {
	case isGreat(s[0]):
		return api.KType
	case slices.Contains(Words(), s):
		return api.KWord
	}
	return api.KName
}

func cutSign(src string, at int) (api.Token, int, *Refusal) {
	end := at + 1
	if strings.HasPrefix(src[at:], "==") {
		end++
	}
	return written(api.KSign, src, at, end), end, nil
}

// written is a token that says its own bytes: a copy of them, for an answer shares no memory with what was given.
func written(kind int, src string, at, end int) api.Token {
	return api.Token{Place: api.Place{At: at}, Kind: kind, S: strings.Clone(src[at:end])}
}

func cutNumber(src string, at int) (api.Token, int, *Refusal) {
	end := at + 1
	for end < len(src) && isDigit(src[end]) {
		end++
	}
	n, ok := number(src[at:end])
	if !ok || end < len(src) && inName(src[end]) {
		return api.Token{}, 0, refuse(at, api.ErrNumber)
	}
	return api.Token{Place: api.Place{At: at}, Kind: api.KNumber, N: n}, end, nil
}

// number reads digits; false, if they have a nought ahead or are too great.
func number(digits string) (int, bool) {
	if digits[0] == '0' && len(digits) > 1 {
		return 0, false
	}
	n := 0
	for i := range len(digits) {
		d := int(digits[i] - '0')
		if n > (math.MaxInt-d)/10 {
			return 0, false
		}
		n = n*10 + d
	}
	return n, true
}

func cutText(src string, at int) (api.Token, int, *Refusal) {
	var said strings.Builder
	i := at + 1
	for i < len(src) && src[i] != '"' {
		b := src[i]
		ok := plain(b)
		if b == '\\' {
			i++
			if i == len(src) {
				break
			}
			b, ok = escaped(src[i])
		}
		if !ok {
			return api.Token{}, 0, refuse(i, api.ErrQuote)
		}
		said.WriteByte(b)
		i++
	}
	if i == len(src) {
		return api.Token{}, 0, refuse(i, api.ErrQuote)
	}
	return api.Token{Place: api.Place{At: at}, Kind: api.KText, S: said.String()}, i + 1, nil
}

// escaped answers the byte that a backslash with b behind it stands for.
func escaped(b byte) (byte, bool) {
	switch b {
	case 'n':
		return '\n', true
	case '"', '\\':
		return b, true
	}
	return 0, false
}
