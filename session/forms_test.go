package session_test

import (
	"strings"
	"testing"

	"coil/session"
)

// wrong are lines whose first word is a command, and what stands behind it not of its form.
func wrong() []string {
	lines := []string{
		"find", "find ", "find\t", "find \t\r ",
		"run", "go", "run ", "go\t", "run 1 2", "go 1 2", "run 5 x", "go 5 5", "run 5 #", "go 1\t2", "run x", "go x", "run | 1", "run 1 |", "run int", "run #",
	}
	for _, two := range []string{"ids", "below", "why", "differ", "table"} {
		for _, rest := range []string{"", " ", "\t", " int", " int int", " int bool", " A I", " a", " A /", " A \\ I", " A ¦ I", "\tint | int", "\rA|I", "\t A | I", " {a int;}"} {
			lines = append(lines, two+rest)
		}
	}
	for _, alone := range []string{"classes", "counts", "sites", "casts"} {
		for _, rest := range []string{" x", "\tx", " 1", " A", " |", " #", " classes", " \t\r x", " \n", " 0 ", " # note"} {
			lines = append(lines, alone+rest)
		}
	}
	for _, n := range []string{
		"00", "01", "007", "-0", "-00", "-01", "-", "--", "+", "+0", "+5", "-+5", "--5", "5-", "- 5", "5.", "5.0", ".5", "0x5", "0b1", "0o7", "1_000", "1e3", "5a", "a5", "5;", "(5)", "\"5\"", "５", "٣", "5\x00", "\v5", "inf", "NaN",
		"9223372036854775808", "-9223372036854775809", "9223372036854775810", "18446744073709551616", "18446744073709551621", "99999999999999999999", "-99999999999999999999", "0" + "9223372036854775807", strings.Repeat("9", 400), strings.Repeat("0", 400), "-" + strings.Repeat("1", 400), "1,000", "1 000",
	} {
		lines = append(lines, "run "+n, "go "+n, "run\t"+n+" ", " go  "+n)
	}
	return lines
}

// TestWrongForms: P15.1, error 60 goes ahead of all that a line needs, and of what a text is refused for.
func TestWrongForms(t *testing.T) {
	for _, s := range []*session.Session{session.New(), opened(t, "defs "+set), opened(t, "program "+fourth)} {
		before := s.Lines("classes", "id A", "run 9", "counts")
		for _, line := range wrong() {
			plays(t, s, play{line, "error 60"})
		}
		if after := s.Lines("classes", "id A", "run 9", "counts"); strings.Join(after, ";") != strings.Join(before, ";") {
			t.Error(before, after)
		}
	}
}

// TestNeeds: P15.1, each command that needs a set or a program, without one: error 61, ahead of all but error 60.
func TestNeeds(t *testing.T) {
	for _, c := range commands() {
		line := c.word + c.form
		empty := session.New().Do(line)
		withSet := opened(t, "defs").Do(line)
		withProgram := opened(t, "program "+fourth).Do(line)
		if (empty == "error 61") != (c.needs != "") || (withSet == "error 61") != (c.needs == "program") || withProgram == "error 61" {
			t.Errorf("%s: %q %q %q", line, empty, withSet, withProgram)
		}
		for _, answer := range []string{empty, withSet, withProgram} {
			if answer == "error 60" || answer == "" {
				t.Error(line, answer)
			}
		}
	}
	s := session.New()
	for _, line := range []string{"id", "id ", "id\tint", "id a", "id ?", "id B", "ids | ", "ids ? | ?", "below B|", "below |B", "why a | b", "differ \" | ", "label", "label {", "find m", "find m ?", "find ? ?", "find \"", "find m\tA", "methods", "methods 5", "table a|a|a", "run -1", "run 100001", "go -5", "go 9223372036854775807"} {
		plays(t, s, play{line, "error 61"})
	}
	s = opened(t, "defs "+set)
	for _, line := range []string{"run 0", "run -1", "run 100001", "go -5", "go -9223372036854775808", "counts", "sites", "casts"} {
		plays(t, s, play{line, "error 61"})
	}
}

// TestStayNone: R3, what was refused has loaded nothing.
func TestStayNone(t *testing.T) {
	s := session.New()
	for _, line := range []string{"defs type A = A;", "defs x", "defs ?", "defs type A = int; main int { return 1; }", "program", "program main int { }", "program type A = int;", "program main int { return x; }", "id int", "run 1", "nonsense", strings.Repeat("x", 1<<16+1)} {
		if answer := s.Do(line); !strings.HasPrefix(answer, "error ") {
			t.Error(line, answer)
		}
		plays(t, s, play{"classes", "error 61"}, play{"id int", "error 61"}, play{"casts", "error 61"})
	}
}

// TestNumbers: P15.1, numbers that an int holds are of the form, whether there can be such a fuel or not.
func TestNumbers(t *testing.T) {
	s := opened(t, "program main int { print 1; return 2; }")
	for _, word := range []string{"run", "go"} {
		for _, x := range []play{
			{"0", "ok 50 0 0"}, {"1", "ok 50 1 1"}, {"2", "ok 0 2 1 2"}, {"10", "ok 0 2 1 2"}, {"100", "ok 0 2 1 2"}, {"99999", "ok 0 2 1 2"}, {"100000", "ok 0 2 1 2"},
			{"100001", "error 4"}, {"-1", "error 4"}, {"-10", "error 4"}, {"-100000", "error 4"}, {"4294967298", "error 4"}, {"9223372036854775807", "error 4"}, {"-9223372036854775808", "error 4"}, {"9223372036854775799", "error 4"},
		} {
			for _, line := range []string{word + " " + x[0], " " + word + "\t" + x[0] + "\r"} {
				plays(t, s, play{line, x[1]})
			}
		}
	}
}

// TestTexts: P15.1, TEXT is all behind the byte 32 that ends the first word; if another blank does, or none, there is none.
func TestTexts(t *testing.T) {
	s := opened(t, "defs "+set)
	plays(t, s,
		play{"id", "error 14 at 0"}, play{"id ", "error 14 at 0"}, play{"id  ", "error 14 at 1"}, play{"id \t", "error 14 at 1"}, play{"id\t", "error 14 at 0"}, play{"id\tA", "error 14 at 0"}, play{"id\rA", "error 14 at 0"}, play{"id\t A", "error 14 at 0"},
		play{"id \tA", "ok 0"}, play{"id  \r\n A // B", "ok 0"}, play{"  id   a", "error 13 at 2"}, play{"\tid B", "error 21 at 0"}, play{"id int A", "error 13 at 4"}, play{"id A | A", "error 10 at 2"}, play{"id A # A", "error 10 at 2"},
		play{"label\tint", "error 14 at 0"}, play{"methods\tA", "error 14 at 0"}, play{"label \n*\nA", "ok *"}, play{"methods // A\n A", "ok m"},
		play{"find m A", "ok method A"}, play{"find  m A", "ok method A"}, play{"find\tm A", "ok method A"}, play{"find\r\t m A", "ok method A"}, play{"find m  A ", "ok method A"}, play{"find m", "error 14 at 0"}, play{"find m ", "error 14 at 0"}, play{"find m\tA", "error 14 at 0"}, play{"find m\rA", "error 14 at 0"},
		play{"find m \tA", "ok method A"}, play{"find m ?", "error 10 at 0"}, play{"find m  b", "error 13 at 1"}, play{"find A m", "error 13 at 0"}, play{"find | A", "error 30"}, play{"find # A", "error 30"}, play{"find m\n A", "error 30"}, play{"find \xff A", "error 30"}, play{"find " + strings.Repeat("m", 5000) + " A", "error 30"},
		play{"defs\ttype A = A;", "ok 0"}, play{"classes", "ok 0"}, play{"defs\r" + set, "ok 0"}, play{"defs\t " + set, "ok 0"}, play{"id A", "error 21 at 0"},
		play{"program\t" + fourth, "error 14 at 0"}, play{"program", "error 14 at 0"}, play{"program ", "error 14 at 0"}, play{"program   ", "error 14 at 2"}, play{"classes", "ok 0"},
		play{"defs \n" + set + "\n// end", "ok 4"}, play{"defs  ", "ok 0"}, play{"defs // type A = A;", "ok 0"}, play{" \tdefs " + set, "ok 4"},
	)
}

// TestBars: P15.1, the first '|' parts T1 from T2, each of which is a text with places of its own.
func TestBars(t *testing.T) {
	s := opened(t, "defs "+set)
	plays(t, s,
		play{"ids A|I", "ok 0 3"}, play{"ids A | I", "ok 0 3"}, play{"ids  A\t|\r I ", "ok 0 3"}, play{"ids A // x\n|I // y", "ok 0 3"},
		play{"ids |", "error 14 at 0"}, play{"ids  | ", "error 14 at 1"}, play{"ids A|", "error 14 at 0"}, play{"ids A|  ", "error 14 at 2"}, play{"ids |A", "error 14 at 0"}, play{"ids  |A", "error 14 at 1"}, play{"ids ?|", "error 10 at 0"}, play{"ids |?", "error 14 at 0"},
		play{"ids A|I|", "error 10 at 1"}, play{"ids A | I | I", "error 10 at 3"}, play{"ids A||I", "error 10 at 0"}, play{"ids A|a", "error 13 at 0"}, play{"ids a|?", "error 13 at 0"}, play{"ids A // | I\n", "ok 0 3"}, play{"ids A // | \n I", "ok 0 3"}, play{"ids A // x | I // | A", "ok 0 3"},
		play{"ids B | a", "error 13 at 1"}, play{"ids B | C", "error 21 at 0"}, play{"ids A | C", "error 21 at 0"}, play{"ids {embed a int;} | C", "error 21 at 0"}, play{"ids {embed a int;} | A", "error 24 at 0"},
		play{"below A|I", "ok yes"}, play{"below |", "error 14 at 0"}, play{"below A|I|A", "error 10 at 1"}, play{"below A | B", "error 21 at 0"},
		play{"why I|A", "ok at once"}, play{"why A | ", "error 14 at 1"}, play{"why B|A", "error 21 at 0"}, play{"differ I|A", "ok at once"}, play{"differ A|I|", "error 10 at 1"}, play{"differ A|B", "error 21 at 0"},
		play{"table A|I", "ok m:A"}, play{"table |I", "error 14 at 0"}, play{"table A|I |", "error 10 at 2"}, play{"table A|B", "error 21 at 0"},
	)
}
