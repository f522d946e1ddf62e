package session_test

import (
	"slices"
	"strings"
	"testing"
	"unsafe"

	"coil/session"
)

// spoil writes into all of a list, and its spare room.
func spoil(l []string) {
	l = l[:cap(l)]
	for i := range l {
		l[i] = "spoilt"
	}
}

// asks are lines that ask all sorts of things of fourth.
func asks() []string {
	return []string{"classes", "id A", "ids *A | fn() I", "below A | I", "why I | A", "differ A | {x int;}", "label A", "find m {embed a *A;}", "methods {embed i I;}", "table A | I", "run 9", "go 9", "sites", "casts", "# x", "find z A", "id", "x"}
}

// TestAnswers: R2, what is written into lists of answers, or into their spare room, changes nothing of other answers.
func TestAnswers(t *testing.T) {
	s := opened(t, "program "+fourth)
	first := s.Lines(asks()...)
	same := slices.Clone(first)
	second := s.Lines(asks()...)
	_ = append(second[:0], "spoilt")
	spoil(second)
	_ = append(s.Lines(), "spoilt")
	third := s.Lines(asks()...)
	if !slices.Equal(first, same) || !slices.Equal(third, same) {
		t.Error(first, third)
	}
}

// TestStays: R2, lists that were answered stay as they are, whatever is asked or loaded later.
func TestStays(t *testing.T) {
	s := opened(t, "program "+fourth)
	l := s.Lines(asks()...)
	same := slices.Clone(l)
	for range 3 {
		s.Lines(slices.Concat(asks(), []string{"defs " + twelve, "id B", "table B | J", "program " + classes(3, 2), "go 99", "counts", "defs", "x", ""})...)
		session.New().Lines(asks()...)
		if !slices.Equal(l, same) {
			t.Fatal(l)
		}
	}
}

// TestHandedIn: R2, lines that are handed in are not changed, nor their spare room.
func TestHandedIn(t *testing.T) {
	lines := append(make([]string, 0, 40), asks()...)
	spare := lines[len(lines):cap(lines)]
	for i := range spare {
		spare[i] = "spare"
	}
	for _, s := range []*session.Session{session.New(), opened(t, "program "+fourth)} {
		s.Lines(lines...)
		if !slices.Equal(lines, asks()) || slices.ContainsFunc(spare, func(line string) bool { return line != "spare" }) {
			t.Fatal(lines, spare)
		}
	}
}

// TestNotKept: R2, a session keeps nothing of a line's own bytes.
func TestNotKept(t *testing.T) {
	for _, load := range []string{"defs " + set, "program " + fourth, "program " + strings.Replace(fourth, "int { let", "int { print \"text of its own\"; let", 1)} {
		bytes := []byte(load)
		s := session.New()
		answers := s.Lines(append([]string{unsafe.String(&bytes[0], len(bytes))}, asks()...)...)
		want := session.New().Lines(append([]string{load}, asks()...)...)
		for i := range bytes {
			bytes[i] = '?'
		}
		if !slices.Equal(answers, want) || !slices.Equal(s.Lines(asks()...), want[1:]) {
			t.Error(answers, want)
		}
	}
	s := opened(t, "program "+fourth)
	for _, ask := range asks() {
		bytes := []byte(ask)
		want := session.New().Lines("program "+fourth, ask)[1]
		got := s.Do(unsafe.String(&bytes[0], len(bytes)))
		for i := range bytes {
			bytes[i] = '?'
		}
		if got != want {
			t.Error(ask, got, want)
		}
	}
}
