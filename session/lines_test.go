package session_test

import (
	"strings"
	"testing"

	"coil/api"
	"coil/session"
)

// TestEmpty: P15.1, lines without words, and such whose first word begins with '#'.
func TestEmpty(t *testing.T) {
	for _, s := range []*session.Session{session.New(), opened(t, "defs "+set), opened(t, "program "+fourth)} {
		for _, line := range []string{
			"", " ", "\t", "\r", "  ", " \t\r \r\t ", "#", "##", "# note", "#note", " # note", "\t\r# x", "#defs", "#\t", "# a | b", "#\n", "#\x00\xff", "# defs type A = A;",
			strings.Repeat(" ", api.MaxText), strings.Repeat("#", api.MaxText), strings.Repeat("\t", api.MaxText-1) + "#",
		} {
			plays(t, s, play{line, ""})
		}
	}
}

// TestNoBlanks: P15.1, bytes 9, 13 and 32 alone are blanks: others are words, or parts of them.
func TestNoBlanks(t *testing.T) {
	s := opened(t, "program "+fourth)
	for _, b := range []string{"\n", "\v", "\f", "\x00", "\x7f", "\x85", "\xa0", "\u0085", "\u00a0", "\u2003", "\u3000", "\ufeff", "\xff"} {
		for _, line := range []string{b, b + b, b + "classes", "classes" + b, "run" + b + "5", "run 5" + b, "run " + b + "5", "classes " + b, b + "# note", b + " # note", "id" + b + "int", "casts" + b + " "} {
			plays(t, s, play{line, "error 60"})
		}
	}
	for b := range 256 {
		want := "error 60"
		if b == 9 || b == 13 || b == 32 {
			want = "ok 4"
		}
		plays(t, s, play{"classes" + string([]byte{byte(b)}), want})
	}
}

// TestBlanks: P15.1, blanks stand ahead of words and behind them, as many as there may be.
func TestBlanks(t *testing.T) {
	s := opened(t, "program "+fourth)
	for _, blank := range []string{" ", "\t", "\r", "  ", "\t \r", "\r \t"} {
		plays(t, s,
			play{blank + "classes", "ok 4"}, play{"classes" + blank, "ok 4"}, play{blank + "casts" + blank, "ok 0 0"}, play{blank + "sites" + blank, "ok 3:0"},
			play{"run" + blank + "9", "ok 0 4 0 7"}, play{blank + "go" + blank + "2" + blank, "ok 50 2 0"}, play{blank + "id A", "ok 0"},
			play{"find" + blank + "m A", "ok method A"}, play{blank + "find" + blank + "x A" + blank, "ok field"},
		)
	}
	plays(t, s, play{"run" + strings.Repeat(" ", api.MaxText-4) + "9", "ok 0 4 0 7"}, play{"id A" + strings.Repeat("\t", api.MaxText-4), "ok 0"})
}

// TestLong: P15.1, a line of just as many bytes as it may have, and of one more, which does nothing.
func TestLong(t *testing.T) {
	long := func(line string, n int) string { return line + strings.Repeat(" ", n-len(line)) }
	s := opened(t, "defs "+set)
	for _, x := range []play{
		{"classes", "ok 4"}, {"id A", "ok 0"}, {"run 5", "error 61"}, {"nonsense", "error 60"}, {"find m A", "ok method A"}, {"below A | I", "ok yes"}, {"", ""}, {"# note", ""}, {"id a", "error 13 at 0"},
		{"defs type B = int;", "ok 1"}, {"defs " + set, "ok 4"},
	} {
		plays(t, s, play{long(x[0], api.MaxText), x[1]})
	}
	for _, line := range []string{"classes", "id A", "run 5", "nonsense", "below int", "", "# note", "defs", "defs type B = int;", "program " + fourth, strings.Repeat("x", api.MaxText)} {
		plays(t, s, play{long(line, api.MaxText+1), "error 2"}, play{long(line, 3*api.MaxText), "error 2"}, play{"classes", "ok 4"}, play{"id A", "ok 0"}, play{"run 5", "error 61"})
	}
	plays(t, session.New(), play{long("classes", api.MaxText+1), "error 2"}, play{long("classes", api.MaxText), "error 61"})
}

// TestUnknown: P15.1, words that are no commands, whatever is loaded.
func TestUnknown(t *testing.T) {
	words := []string{"nonsense", "x", "0", "-1", "|", "id|int", "Id", "ID", "DEFS", "def", "defss", "type", "main", "ok", "error", "\"id\"", "//", "help", "new", "classes;", "run5", "run=5", "é", strings.Repeat("id", 999)}
	for _, c := range commands() {
		words = append(words, c.word[:len(c.word)-1]+"X", c.word+"#", c.word+c.word, strings.ToUpper(c.word))
	}
	for _, s := range []*session.Session{session.New(), opened(t, "defs "+set), opened(t, "program "+fourth)} {
		for _, w := range words {
			plays(t, s, play{w, "error 60"}, play{w + " int", "error 60"}, play{" " + w + " 5 ", "error 60"}, play{w + " id int", "error 60"}, play{w + "\tA | A", "error 60"})
		}
	}
}
