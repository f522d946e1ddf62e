package lex_test

import (
	"slices"
	"strings"
	"testing"

	"coil/api"
	"coil/lex"
)

// pieces are the bytes and short texts of which the texts of these tests are made: each kind of token, blank, remark and fault.
var pieces = []string{"a", "A", "let", "0", "7", "\"", "\\", "n", "=", ".", "/", " ", "\n", "_", "#"}

// texts ranges over all texts of at most n pieces.
func texts(n int, yield func(string)) {
	level := []string{""}
	for range n + 1 {
		var longer []string
		for _, s := range level {
			yield(s)
			for _, p := range pieces {
				longer = append(longer, s+p)
			}
		}
		level = longer
	}
}

// placeless is tokens with all places at 0.
func placeless(tokens []api.Token) []api.Token {
	out := slices.Clone(tokens)
	for i := range out {
		out[i].Place = api.Place{}
	}
	return out
}

// TestJoinIsCutAgain: P1.5, what Join writes is cut into the same tokens but for their places.
func TestJoinIsCutAgain(t *testing.T) {
	some := []api.Token{
		{Kind: api.KName, S: "a"}, {Kind: api.KName, S: "lets"}, {Kind: api.KType, S: "A_9"}, {Kind: api.KWord, S: "self"},
		{Kind: api.KNumber}, {Kind: api.KNumber, N: 70}, {Kind: api.KText}, {Kind: api.KText, S: "// \n\"\\n"},
		{Kind: api.KSign, S: "="}, {Kind: api.KSign, S: "=="}, {Kind: api.KSign, S: "."}, {Kind: api.KSign, S: "-"},
	}
	check := func(tokens ...api.Token) {
		src, e := lex.Join(tokens...)
		got, err := lex.Tokens(src)
		if e != api.OK || err != nil || !slices.Equal(placeless(got), placeless(tokens)) {
			t.Errorf("%q: %s, not %s", src, show(got), show(tokens))
		}
	}
	check()
	for _, a := range some {
		check(a)
		for _, b := range some {
			check(a, b)
			for _, c := range some {
				check(a, b, c)
			}
		}
	}
}

// TestCutIsJoined: P1.5, what Tokens cuts is written by Join, and cut again.
func TestCutIsJoined(t *testing.T) {
	cut := 0
	texts(4, func(src string) {
		tokens, err := lex.Tokens(src)
		if err != nil {
			return
		}
		cut++
		text, e := lex.Join(tokens...)
		again, err := lex.Tokens(text)
		if e != api.OK || err != nil || !slices.Equal(placeless(again), placeless(tokens)) {
			t.Errorf("%q: %q: %s, not %s", src, text, show(again), show(tokens))
		}
	})
	if cut == 0 {
		t.Error("no text was cut")
	}
}

// TestBlanksAndRemarks: P1.5, blanks and remarks between tokens turn nothing but places.
func TestBlanksAndRemarks(t *testing.T) {
	tokens, err := lex.Tokens("let a: T = -b.c(7, \"x // \\n\") == not D{};")
	if err != nil {
		t.Fatal(err)
	}
	var words []string
	for _, x := range tokens {
		w, _ := lex.Join(x)
		words = append(words, w)
	}
	for _, gap := range []string{" ", "\t", "\r\n", "\n\n  ", "//\n", " // a \" # 007 // b\n", "//\n//\n\t"} {
		for _, end := range []string{"", gap, " // the end"} {
			src := gap + strings.Join(words, gap) + end
			got, err := lex.Tokens(src)
			if err != nil || !slices.Equal(placeless(got), placeless(tokens)) {
				t.Errorf("%q: %s %v", src, show(got), err)
			}
			at := len(gap)
			for i, w := range words {
				if err == nil && got[i].Where() != at {
					t.Errorf("%q: token %d at %d, not %d", src, i, got[i].Where(), at)
				}
				at += len(w) + len(gap)
			}
		}
	}
}

// outside: at which blanks of src, which is cut into tokens, does neither a text nor a remark stand?
func outside(src string) []int {
	var at []int
	inText, inRemark := false, false
	for i := 0; i < len(src); i++ {
		switch b := src[i]; {
		case inRemark:
			inRemark = b != '\n'
			if !inRemark {
				at = append(at, i)
			}
		case inText && b == '\\':
			i++
		case b == '"':
			inText = !inText
		case inText:
		case strings.HasPrefix(src[i:], "//"):
			inRemark = true
		case b == ' ' || b == '\n':
			at = append(at, i)
		}
	}
	return at
}

// TestBeginnings: P1.5, the tokens up to a blank are those of the text's beginning.
func TestBeginnings(t *testing.T) {
	const long = "let a = \"b c // d\\\" \"; // e \"f\" \n g == 7 // h\n //i\n"
	check := func(src string) {
		tokens, err := lex.Tokens(src)
		if err != nil {
			return
		}
		for _, at := range outside(src) {
			n := 0
			for n < len(tokens) && tokens[n].Where() < at {
				n++
			}
			got, err := lex.Tokens(src[:at])
			if err != nil || !slices.Equal(got, tokens[:n]) {
				t.Errorf("%q: %s, not %s: %v", src[:at], show(got), show(tokens[:n]), err)
			}
		}
	}
	if _, err := lex.Tokens(long); err != nil || len(outside(long)) < 10 {
		t.Fatal(err, outside(long))
	}
	check(long)
	texts(4, check)
}

// TestAllAndTokens: P1.2 and P1.1 of all short texts: what All hands out are the tokens, or those ahead of the refusal, each where its text stands.
func TestAllAndTokens(t *testing.T) {
	texts(4, func(src string) {
		var got []api.Token
		for i, x := range lex.All(src) {
			if i != len(got) || x.Where() < 0 || x.Where() >= len(src) {
				t.Fatalf("%q: %d %s", src, i, show([]api.Token{x}))
			}
			got = append(got, x)
		}
		tokens, err := lex.Tokens(src)
		if err == nil && !slices.Equal(got, tokens) || err != nil && len(tokens) != 0 {
			t.Errorf("%q: %s, not %s: %v", src, show(got), show(tokens), err)
		}
	})
}
