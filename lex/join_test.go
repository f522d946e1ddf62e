package lex_test

import (
	"math"
	"slices"
	"strings"
	"testing"

	"coil/api"
	"coil/lex"
)

// joined fails, unless tokens are written as that text.
func joined(t *testing.T, want string, tokens ...api.Token) {
	t.Helper()
	if got, e := lex.Join(tokens...); got != want || e != api.OK {
		t.Errorf("%.40q, %v, not %.40q", got, e, want)
	}
}

// notJoined fails, unless tokens are refused with that number.
func notJoined(t *testing.T, want api.Errno, tokens ...api.Token) {
	t.Helper()
	if got, e := lex.Join(tokens...); got != "" || e != want {
		t.Errorf("%.80v: %.40q, %v, not %v", tokens, got, e, want)
	}
}

// repeated is a list of n tokens that are all t.
func repeated(n int, t api.Token) []api.Token {
	return slices.Repeat([]api.Token{t}, n)
}

// TestJoin: P1.3, one blank between each two; places are not looked at.
func TestJoin(t *testing.T) {
	joined(t, "")
	joined(t, "", []api.Token{}...)
	joined(t, "a", api.Token{Kind: api.KName, S: "a"})
	joined(t, "a B let 0 = ==",
		api.Token{Kind: api.KName, S: "a"}, api.Token{Kind: api.KType, S: "B"}, api.Token{Kind: api.KWord, S: "let"},
		api.Token{Kind: api.KNumber}, api.Token{Kind: api.KSign, S: "="}, api.Token{Kind: api.KSign, S: "=="})
	joined(t, "9223372036854775807", api.Token{Kind: api.KNumber, N: math.MaxInt})
	joined(t, "10 = =", api.Token{Kind: api.KNumber, N: 10}, api.Token{Kind: api.KSign, S: "="}, api.Token{Kind: api.KSign, S: "="})
	joined(t, "\"\"", api.Token{Kind: api.KText})
	joined(t, "\" a~\\n\\\"\\\\n//\"", api.Token{Kind: api.KText, S: " a~\n\"\\n//"})
	joined(t, "a b", api.Token{Place: api.Place{At: 9}, Kind: api.KName, S: "a"}, api.Token{Place: api.Place{At: -1}, Kind: api.KName, S: "b"})
	for _, sign := range strings.Fields("( ) { } ; : , . = == < + - *") {
		joined(t, sign, api.Token{Kind: api.KSign, S: sign})
	}
	for _, word := range lex.Words() {
		joined(t, word, api.Token{Kind: api.KWord, S: word})
		notJoined(t, api.ErrArg, api.Token{Kind: api.KName, S: word})
	}
	name := strings.Repeat("a", api.MaxName)
	joined(t, name, api.Token{Kind: api.KName, S: name})
	joined(t, "A"+name[1:], api.Token{Kind: api.KType, S: "A" + name[1:]})
}

// TestJoinNoTokens: P1.3, what is no token is refused, wherever it stands.
func TestJoinNoTokens(t *testing.T) {
	long := strings.Repeat("a", api.MaxName+1)
	wrong := []api.Token{
		{}, {Kind: -1}, {Kind: 7}, {Kind: 7, S: "a"}, {S: "a"}, {N: 1}, {Kind: math.MaxInt}, {Kind: math.MinInt},
		{Kind: api.KNumber, N: -1}, {Kind: api.KNumber, N: math.MinInt}, {Kind: api.KNumber, S: "1"}, {Kind: api.KNumber, S: "1", N: 1},
		{Kind: api.KText, S: "a", N: 1}, {Kind: api.KText, N: -1},
	}
	for _, s := range []string{"", "A", "let", "_a", "9a", "1", "a b", " a", "a ", "a\n", "a-b", "a.", "\xc3\xa9", "a\xc3\xa9", long, "\"a\"", "a//", "//", "="} {
		wrong = append(wrong, api.Token{Kind: api.KName, S: s})
	}
	for _, s := range []string{"", "a", "let", "_A", "A b", " A", "A ", "A=", "\xc3\x84", "A" + long[1:], "\"A\"", "1"} {
		wrong = append(wrong, api.Token{Kind: api.KType, S: s})
	}
	for _, s := range []string{"", "a", "A", "Let", "lets", "let ", " let", "let let", "1", ";"} {
		wrong = append(wrong, api.Token{Kind: api.KWord, S: s})
	}
	for _, s := range []string{"", "/", "//", "===", "= =", "()", "=<", " ;", "; ", ";;", "a", "1", "\"\"", "\"", "!", "\x00", "\xff", ">"} {
		wrong = append(wrong, api.Token{Kind: api.KSign, S: s})
	}
	for _, s := range []string{"\t", "\r", "\x00", "\x1f", "\x7f", "\x80", "\xff", "a\xc3\xa9", "ok\t"} {
		wrong = append(wrong, api.Token{Kind: api.KText, S: s})
	}
	for _, s := range []api.Token{{Kind: api.KName, S: "a"}, {Kind: api.KType, S: "A"}, {Kind: api.KWord, S: "let"}, {Kind: api.KSign, S: ";"}} {
		for _, n := range []int{1, -1} {
			s.N = n
			wrong = append(wrong, s)
		}
	}
	right := api.Token{Kind: api.KName, S: "a"}
	for _, x := range wrong {
		notJoined(t, api.ErrArg, x)
		notJoined(t, api.ErrArg, right, x)
		notJoined(t, api.ErrArg, x, right)
	}
}

// TestJoinTextBytes: P1.3, of a text just the bytes 10 and 32 to 126 can be written.
func TestJoinTextBytes(t *testing.T) {
	for b := range 256 {
		x := api.Token{Kind: api.KText, S: string([]byte{'a', byte(b)})}
		if b != 10 && (b < 32 || b > 126) {
			notJoined(t, api.ErrArg, x)
			continue
		}
		src, e := lex.Join(x)
		if got, err := lex.Tokens(src); e != api.OK || err != nil || !slices.Equal(got, []api.Token{x}) {
			t.Error(b, src, e, err)
		}
	}
}

// TestJoinLength: P1.3 around MaxText.
func TestJoinLength(t *testing.T) {
	text := func(s string, n int) api.Token { return api.Token{Kind: api.KText, S: strings.Repeat(s, n)} }
	name := api.Token{Kind: api.KName, S: "a"}
	joined(t, "\""+strings.Repeat("x", api.MaxText-2)+"\"", text("x", api.MaxText-2))
	notJoined(t, api.ErrLong, text("x", api.MaxText-1))
	notJoined(t, api.ErrLong, text("x", 4*api.MaxText))
	joined(t, "\""+strings.Repeat("\\n", api.MaxText/2-1)+"\"", text("\n", api.MaxText/2-1))
	notJoined(t, api.ErrLong, text("\"", api.MaxText/2))
	joined(t, "\""+strings.Repeat("x", api.MaxText-4)+"\" a", text("x", api.MaxText-4), name)
	notJoined(t, api.ErrLong, text("x", api.MaxText-3), name)
	joined(t, "a \""+strings.Repeat("x", api.MaxText-4)+"\"", name, text("x", api.MaxText-4))
	notJoined(t, api.ErrLong, name, text("x", api.MaxText-3))
	numbers := repeated(api.MaxItems, api.Token{Kind: api.KNumber, N: math.MaxInt})
	notJoined(t, api.ErrLong, numbers...)
	notJoined(t, api.ErrLong, numbers[:api.MaxText/20+1]...)
	joined(t, strings.TrimSpace(strings.Repeat("9223372036854775807 ", api.MaxText/20)), numbers[:api.MaxText/20]...)
}

// TestJoinOrder: P1.3 around MaxItems, and the order ErrArg, ErrLong, ErrMany.
func TestJoinOrder(t *testing.T) {
	sign := api.Token{Kind: api.KSign, S: ";"}
	full := repeated(api.MaxItems, sign)
	joined(t, strings.Repeat("; ", api.MaxItems-1)+";", full...)
	many := repeated(api.MaxItems+1, sign)
	notJoined(t, api.ErrMany, many...)

	tooLong := api.Token{Kind: api.KText, S: strings.Repeat("x", api.MaxText)}
	none := api.Token{Kind: api.KText, S: "\t"}
	notJoined(t, api.ErrLong, append(slices.Clip(many), tooLong)...)
	notJoined(t, api.ErrLong, repeated(api.MaxText/2+1, sign)...)
	notJoined(t, api.ErrMany, repeated(api.MaxText/2, sign)...)
	notJoined(t, api.ErrArg, append(slices.Clip(many), none)...)
	notJoined(t, api.ErrArg, tooLong, none)
	notJoined(t, api.ErrArg, append(repeated(api.MaxText, sign), tooLong, none)...)
}

// TestJoinLeavesTokens: R2, what is handed in stays as it is, its spare room too.
func TestJoinLeavesTokens(t *testing.T) {
	room := []api.Token{{Kind: api.KName, S: "a"}, {Kind: api.KText, S: "\n"}, {Kind: 9, S: "spare"}}
	before := slices.Clone(room)
	joined(t, "a \"\\n\"", room[:2]...)
	if !slices.Equal(room, before) {
		t.Error(room)
	}
}
