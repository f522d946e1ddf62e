package lex_test

import (
	"errors"
	"slices"
	"strconv"
	"strings"
	"testing"

	"coil/api"
	"coil/lex"
)

// show tells kind, what it says and place of each token, so that a want is one text.
func show(tokens []api.Token) string {
	var parts []string
	for _, t := range tokens {
		says := t.S
		if t.Kind == api.KNumber {
			says += "#" + strconv.Itoa(t.N)
		} else if t.N != 0 {
			says += "!" + strconv.Itoa(t.N)
		}
		parts = append(parts, strconv.Itoa(t.Kind)+":"+says+"@"+strconv.Itoa(t.Where()))
	}
	return strings.Join(parts, " ")
}

// TestTokens: P1.1, texts that are cut: the chapter's runs and examples, and each kind's edges.
func TestTokens(t *testing.T) {
	for _, c := range []struct{ src, want string }{
		{"let x = 5;", "3:let@0 1:x@4 6:=@6 4:#5@8 6:;@9"},
		{"A==a", "2:A@0 6:==@1 1:a@3"},
		{"\"a\\n\\\"\" // b", "5:a\n\"@0"},
		{"0", "4:#0@0"},
		{"", ""},
		{"// alone", ""},
		{"//", ""},
		{" \t\r\n", ""},
		{"letx", "1:letx@0"},
		{"x.y", "1:x@0 6:.@1 1:y@2"},

		{"a_Z09 aA", "1:a_Z09@0 1:aA@6"},
		{"Z A_b9", "2:Z@0 2:A_b9@2"},
		{"a__ z", "1:a__@0 1:z@4"},
		{"Let LET lEt let", "2:Let@0 2:LET@4 1:lEt@8 3:let@12"},
		{"let_ let9 selfs", "1:let_@0 1:let9@5 1:selfs@10"},
		{"1 10 190", "4:#1@0 4:#10@2 4:#190@5"},
		{"9223372036854775807", "4:#9223372036854775807@0"},
		{"9223372036854775807;", "4:#9223372036854775807@0 6:;@19"},
		{"0 0", "4:#0@0 4:#0@2"},
		{"1.2", "4:#1@0 6:.@1 4:#2@2"},
		{"-1", "6:-@0 4:#1@1"},
		{"1\"a\"b\"\"2", "4:#1@0 5:a@1 1:b@4 5:@5 4:#2@7"},
		{"\"\"", "5:@0"},
		{"\" ~!#/'`\"", "5: ~!#/'`@0"},
		{"\"\\\\n\"", "5:\\n@0"},
		{"\"\\\\\" \"\\n\"", "5:\\@0 5:\n@5"},
		{"\"// no\" x", "5:// no@0 1:x@8"},
		{"(){};:,.=<+-*", "6:(@0 6:)@1 6:{@2 6:}@3 6:;@4 6::@5 6:,@6 6:.@7 6:=@8 6:<@9 6:+@10 6:-@11 6:*@12"},
		{"= == === ====", "6:=@0 6:==@2 6:==@5 6:=@7 6:==@9 6:==@11"},
		{"= =", "6:=@0 6:=@2"},
		{"<=", "6:<@0 6:=@1"},
		{"a\tb\rc\nd", "1:a@0 1:b@2 1:c@4 1:d@6"},
		{"a//b\nc", "1:a@0 1:c@5"},
		{"a // b\r c", "1:a@0"},
		{"a///\n//\n/////b\nc// \"", "1:a@0 1:c@15"},
		{"// \x00\xff# 007 \"\n x", "1:x@14"},
	} {
		got, err := lex.Tokens(c.src)
		if err != nil || show(got) != c.want {
			t.Errorf("%q: %q, %v, not %q", c.src, show(got), err, c.want)
		}
	}
}

// TestWordsAreCut: P1.1, each word is a KWord, and a name as soon as anything hangs on it.
func TestWordsAreCut(t *testing.T) {
	for _, w := range lex.Words() {
		got, err := lex.Tokens(w + " " + w + "s")
		want := "3:" + w + "@0 1:" + w + "s@" + strconv.Itoa(len(w)+1)
		if err != nil || show(got) != want {
			t.Errorf("%q: %q, %v", w, show(got), err)
		}
	}
}

// refused fails, unless src is refused with that number at that place, and with nothing beside it.
func refused(t *testing.T, src string, at int, why api.Errno) {
	t.Helper()
	got, err := lex.Tokens(src)
	var r *lex.Refusal
	if !errors.As(err, &r) {
		t.Errorf("%.40q: not refused: %v", src, err)
		return
	}
	if len(got) != 0 || r.Where() != at || r.At != at || r.Why != why {
		t.Errorf("%.40q: %d tokens, %v at %d, not %v at %d", src, len(got), r.Why, r.Where(), why, at)
	}
}

// TestRefusals: P1.1, each refusal and its place.
func TestRefusals(t *testing.T) {
	for _, c := range []struct {
		src string
		at  int
		why api.Errno
	}{
		{"x # y", 2, api.ErrByte},
		{"a / b", 2, api.ErrByte},
		{"a /", 2, api.ErrByte},
		{"/ /", 0, api.ErrByte},
		{"a/\n/b", 1, api.ErrByte},
		{"\xc3\xa9", 0, api.ErrByte},
		{"a\xc3\xa9", 1, api.ErrByte},
		{"1\xc3\xa9", 1, api.ErrByte},
		{"_a", 0, api.ErrByte},
		{"a;_", 2, api.ErrByte},
		{"\x00", 0, api.ErrByte},
		{"a \x0b", 2, api.ErrByte},
		{"a\x0cb", 1, api.ErrByte},
		{"\\n", 0, api.ErrByte},
		{"'a'", 0, api.ErrByte},
		{"a > b", 2, api.ErrByte},
		{"!=", 0, api.ErrByte},

		{"007", 0, api.ErrNumber},
		{"00", 0, api.ErrNumber},
		{"01", 0, api.ErrNumber},
		{"1a", 0, api.ErrNumber},
		{"0a", 0, api.ErrNumber},
		{"0_", 0, api.ErrNumber},
		{"x 12_", 2, api.ErrNumber},
		{"x 12Z", 2, api.ErrNumber},
		{"9223372036854775808", 0, api.ErrNumber},
		{"9223372036854775810", 0, api.ErrNumber},
		{"18446744073709551617", 0, api.ErrNumber},
		{"92233720368547758070", 0, api.ErrNumber},
		{"; " + strings.Repeat("9", 60000), 2, api.ErrNumber},

		{"\"a", 2, api.ErrQuote},
		{"\"", 1, api.ErrQuote},
		{"x \"", 3, api.ErrQuote},
		{"\"\\", 2, api.ErrQuote},
		{"\"\\\"", 3, api.ErrQuote},
		{"\"\\n", 3, api.ErrQuote},
		{"\"a\\x\"", 3, api.ErrQuote},
		{"\"\\N\"", 2, api.ErrQuote},
		{"\"\\t\"", 2, api.ErrQuote},
		{"\"\\\n\"", 2, api.ErrQuote},
		{"\"a\nb\"", 2, api.ErrQuote},
		{"\"a\tb\"", 2, api.ErrQuote},
		{"\"\x1f\"", 1, api.ErrQuote},
		{"\"\x7f\"", 1, api.ErrQuote},
		{"\"\x00\"", 1, api.ErrQuote},
		{"\"a\xc3\xa9\"", 2, api.ErrQuote},
		{"\"// a", 5, api.ErrQuote},
		{"a \"b\" \"c", 8, api.ErrQuote},
	} {
		refused(t, c.src, c.at, c.why)
	}
}

// TestFirstPlace: P1.1, of several places the first one from the left is told.
func TestFirstPlace(t *testing.T) {
	long := strings.Repeat("a", 33)
	refused(t, "a ? 007", 2, api.ErrByte)
	refused(t, "007 ?", 0, api.ErrNumber)
	refused(t, "\"\t 1a ?", 1, api.ErrQuote)
	refused(t, long+" ?", 32, api.ErrLong)
	refused(t, "? "+long, 0, api.ErrByte)
	refused(t, "1"+long, 0, api.ErrNumber)
	refused(t, "1a \"", 0, api.ErrNumber)
}

// TestNameLength: P1.1 around MaxName, for small and great letters ahead.
func TestNameLength(t *testing.T) {
	for kind, first := range map[int]string{api.KName: "a", api.KType: "A"} {
		name := first + strings.Repeat("9", api.MaxName-1)
		got, err := lex.Tokens(" " + name + ";")
		if err != nil || len(got) != 2 || got[0].Kind != kind || got[0].S != name {
			t.Error(show(got), err)
		}
		refused(t, " "+name+"_", 1+api.MaxName, api.ErrLong)
		refused(t, name+"aaaa", api.MaxName, api.ErrLong)
	}
}

// TestTextLength: P1.1 around MaxText: the length is asked ahead of all else.
func TestTextLength(t *testing.T) {
	for _, src := range []string{
		strings.Repeat(" ", api.MaxText),
		"//" + strings.Repeat("x", api.MaxText-2),
	} {
		if got, err := lex.Tokens(src); len(got) != 0 || err != nil {
			t.Error(len(got), err)
		}
		refused(t, src+" ", 0, api.ErrLong)
	}
	within := "\"" + strings.Repeat("x", api.MaxText-2) + "\""
	if got, err := lex.Tokens(within); err != nil || len(got) != 1 || len(got[0].S) != api.MaxText-2 {
		t.Error(len(got), err)
	}
	refused(t, within[:api.MaxText-1]+"x", api.MaxText, api.ErrQuote)
	refused(t, "#"+strings.Repeat(" ", api.MaxText), 0, api.ErrLong)
	refused(t, "#"+strings.Repeat(" ", api.MaxText-1), 0, api.ErrByte)
	refused(t, strings.Repeat("; ", api.MaxText), 0, api.ErrLong)
}

// TestTokenCount: P1.1 around MaxItems: whatever begins a token is one too many, what begins none is a wrong byte.
func TestTokenCount(t *testing.T) {
	full := strings.Repeat("; ", api.MaxItems)
	for _, behind := range []string{"", "  ", "// a remark", "//\n\n"} {
		if got, err := lex.Tokens(full + behind); len(got) != api.MaxItems || err != nil {
			t.Errorf("%q: %d %v", behind, len(got), err)
		}
	}
	for _, behind := range []string{";", "a", "A", "let", "7", "==", "\"\"", "007", "1a", "\"", "\"\t", strings.Repeat("a", 33)} {
		refused(t, full+behind, 2*api.MaxItems, api.ErrMany)
		refused(t, full+"//\n"+behind+" #", 2*api.MaxItems+3, api.ErrMany)
	}
	for _, behind := range []string{"#", "/", "/ /", "_", "\xff"} {
		refused(t, full+behind, 2*api.MaxItems, api.ErrByte)
	}
	refused(t, "? "+full+";", 0, api.ErrByte)
	refused(t, full[2:]+"007 ;", 2*api.MaxItems-2, api.ErrNumber)
}

// TestEveryByte: P1.1, each byte alone is a token, a blank or refused as the table says.
func TestEveryByte(t *testing.T) {
	const tokens = "abcdefghijklmnopqrstuvwxyzABCDEFGHIJKLMNOPQRSTUVWXYZ0123456789(){};:,.=<+-*"
	for b := range 256 {
		src := string([]byte{byte(b)})
		switch {
		case strings.Contains(tokens, src):
			if got, err := lex.Tokens(src); len(got) != 1 || err != nil {
				t.Error(b, show(got), err)
			}
		case b == 9 || b == 10 || b == 13 || b == 32:
			if got, err := lex.Tokens(src); len(got) != 0 || err != nil {
				t.Error(b, show(got), err)
			}
		case src == "\"":
			refused(t, src, 1, api.ErrQuote)
		default:
			refused(t, src, 0, api.ErrByte)
		}
		quoted := "\"" + src + "\""
		if 32 <= b && b <= 126 && b != '"' && b != '\\' {
			if got, err := lex.Tokens(quoted); len(got) != 1 || err != nil || got[0].S != src {
				t.Error(b, show(got), err)
			}
		} else if b != '"' && b != '\\' {
			refused(t, quoted, 1, api.ErrQuote)
		}
	}
}

// TestAll: P1.2, the tokens with their numbers, up to where Tokens refuses; again, and left early.
func TestAll(t *testing.T) {
	full := strings.Repeat("; ", api.MaxItems)
	for _, c := range []struct {
		src   string
		count int
	}{
		{"", 0}, {"// a", 0}, {"let x = 5;", 5}, {"a b # c", 2}, {"a 1a", 1}, {"a \"", 1},
		{"a b " + strings.Repeat("c", 33), 2}, {"#", 0},
		{full, api.MaxItems}, {full + ";", api.MaxItems}, {full + "#", api.MaxItems},
		{"a" + strings.Repeat(" ", api.MaxText-1), 1}, {"a" + strings.Repeat(" ", api.MaxText), 0},
	} {
		all := lex.All(c.src)
		for range 2 {
			var got []api.Token
			for i, x := range all {
				if i != len(got) {
					t.Errorf("%.20q: number %d of the token %d", c.src, i, len(got))
				}
				got = append(got, x)
			}
			if len(got) != c.count {
				t.Errorf("%.20q: %d tokens, not %d", c.src, len(got), c.count)
			}
			if want, err := lex.Tokens(c.src); err == nil && !slices.Equal(got, want) {
				t.Errorf("%.20q: %s, not %s", c.src, show(got), show(want))
			}
		}
	}
}

// TestAllUpToRefusal: P1.2, what stands ahead of a refusal is handed out as if nothing stood behind it.
func TestAllUpToRefusal(t *testing.T) {
	var got []api.Token
	for _, x := range lex.All("let A == 7 \"b\" 08 c") {
		got = append(got, x)
	}
	if show(got) != "3:let@0 2:A@4 6:==@6 4:#7@9 5:b@11" {
		t.Error(show(got))
	}
}

// TestAllLeftEarly: P1.2, a walk that was left, or stands within another one, turns nothing for the others.
func TestAllLeftEarly(t *testing.T) {
	all := lex.All("a b c #")
	for n := range 4 {
		var got []api.Token
		for i, x := range all {
			if i == n {
				break
			}
			got = append(got, x)
		}
		if want := []string{"", "1:a@0", "1:a@0 1:b@2", "1:a@0 1:b@2 1:c@4"}[n]; show(got) != want {
			t.Errorf("%d: %s", n, show(got))
		}
	}
	pairs := 0
	for range all {
		for range all {
			pairs++
		}
	}
	if pairs != 9 {
		t.Error(pairs)
	}
	all(nil)
}

// TestRefusalIsError: P1.4, Error and Unwrap; of api's numbers just the one is found.
func TestRefusalIsError(t *testing.T) {
	for src, why := range map[string]api.Errno{
		"#": api.ErrByte, "007": api.ErrNumber, "\"": api.ErrQuote, strings.Repeat("a", 33): api.ErrLong,
		strings.Repeat(";", api.MaxItems+1): api.ErrMany, strings.Repeat(" ", api.MaxText+1): api.ErrLong,
	} {
		_, err := lex.Tokens(src)
		var r *lex.Refusal
		if !errors.As(err, &r) || r.Error() == "" || r.Unwrap() != error(why) {
			t.Errorf("%.20q: %v", src, err)
		}
		var number api.Errno
		if !errors.As(err, &number) || number != why {
			t.Errorf("%.20q: %v", src, number)
		}
		for n := range api.Errno(70) {
			if errors.Is(err, n) != (n == why) {
				t.Errorf("%.20q: is %d?", src, n)
			}
		}
	}
	a := &lex.Refusal{Place: api.Place{At: 3}, Why: api.ErrEnd}
	if a.Where() != 3 || a.Unwrap() != error(api.ErrEnd) || a.Error() == "" {
		t.Error(a)
	}
}

// TestWords: P1.4, in this order, as a new list.
func TestWords(t *testing.T) {
	const want = "type method func main interface embed int bool text fn let print if else while return nil new to and or not true false self"
	first := lex.Words()
	if strings.Join(first, " ") != want {
		t.Error(first)
	}
	for i := range first {
		first[i] = "x"
	}
	first = append(first, "y")
	if again := lex.Words(); strings.Join(again, " ") != want {
		t.Error(again)
	}
	if got, err := lex.Tokens("let x"); err != nil || show(got) != "3:let@0 1:x@4" {
		t.Error(show(got), err)
	}
}

// TestTokensAreNew: R2, what is done to an answer is not seen in the next one.
func TestTokensAreNew(t *testing.T) {
	const src = "let a = \"b\";"
	first, _ := lex.Tokens(src)
	want := show(first)
	clear(first[:cap(first)])
	if again, err := lex.Tokens(src); err != nil || show(again) != want {
		t.Error(show(again), err)
	}
}
