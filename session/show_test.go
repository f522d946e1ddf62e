package session_test

import (
	"testing"

	"coil/session"
)

// play is a line and its answer.
type play [2]string

// plays fails, unless a session answers lines as it must, one after the other.
func plays(t *testing.T, s *session.Session, lines ...play) {
	t.Helper()
	for _, l := range lines {
		if got := s.Do(l[0]); got != l[1] {
			t.Errorf("%.200q: %.200q, not %.200q", l[0], got, l[1])
		}
	}
}

// opened is a session that has done lines, each answered by ok.
func opened(t *testing.T, lines ...string) *session.Session {
	t.Helper()
	s := session.New()
	for _, l := range lines {
		if got := s.Do(l); len(got) < 2 || got[:2] != "ok" {
			t.Fatalf("%.200q: %q", l, got)
		}
	}
	return s
}

// set is the chapter's definitions.
const set = "type I = interface {m() int;}; type A = {x int;}; method A.m() int {}"

// fourth is chapter 9's fourth run: its one call goes by an interface.
const fourth = "type I = interface {m() int;}; type A = {x int;}; method A.m() int { return self.x; } main int { let i I = A{x: 7}; return i.m(); }"

// twelve is chapter 12's definitions.
const twelve = "type I = interface {m() int;}; type J = interface {m() int; a() int;}; type A = {x int;}; method A.m() int {} type B = {embed b A;}; method B.a() int {}"

// commands are all words of commands, each with what makes it of the form; those that load nothing are asked by needs.
func commands() []struct{ word, form, needs string } {
	return []struct{ word, form, needs string }{
		{"defs", " type A = int;", ""}, {"program", " main int { return 1; }", ""},
		{"id", " int", "set"}, {"ids", " int | int", "set"}, {"below", " int | int", "set"}, {"why", " int | bool", "set"}, {"differ", " int | bool", "set"}, {"label", " int", "set"},
		{"find", " m int", "set"}, {"methods", " int", "set"}, {"classes", "", "set"}, {"table", " int | interface {}", "set"},
		{"run", " 1", "program"}, {"go", " 1", "program"}, {"counts", "", "program"}, {"sites", "", "program"}, {"casts", "", "program"},
	}
}
