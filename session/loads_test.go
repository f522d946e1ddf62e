package session_test

import (
	"slices"
	"testing"

	"coil/session"
)

// refusedLoads are lines that load nothing: wrong texts, wrong sets, wrong programs.
func refusedLoads() []string {
	return []string{
		"defs ?", "defs type", "defs type A = int; type A = int;", "defs type A = A;", "defs type A = B;", "defs method A.m() int {}", "defs type A = {embed b int;};", "defs " + fourth, "defs main int { return 1; }",
		"program", "program ?", "program " + set, "program type A = A; main int { return 1; }", "program main int { }", "program main int { return x; }", "program main int { return true; }", "program type B = {}; method B.m() int { } main int { return 1; }",
	}
}

// TestKept: P15.1 and R3, what is refused leaves what was loaded, the cache and the counts.
func TestKept(t *testing.T) {
	asks := []string{"classes", "id A", "id *bool", "label A", "methods A", "table A | I", "run 9", "counts", "sites", "casts"}
	s := opened(t, "defs "+set)
	before := s.Lines(asks...)
	for _, line := range refusedLoads() {
		s.Do(line)
		if after := s.Lines(asks...); !slices.Equal(after, before) {
			t.Error(line, after, before)
		}
	}
	s = opened(t, "program "+fourth, "go 9")
	plays(t, s, play{"counts", "ok 1 1 1 1"})
	before = s.Lines(asks...)
	for _, line := range refusedLoads() {
		s.Do(line)
		if after := s.Lines(asks...); !slices.Equal(after, before) {
			t.Error(line, after, before)
		}
	}
	plays(t, s, play{"go 9", "ok 0 4 0 7"}, play{"counts", "ok 1 1 2 1"}) // the table is kept
}

// TestDefsBehindProgram: P15.1, a set that is loaded leaves no program, the same set too.
func TestDefsBehindProgram(t *testing.T) {
	s := opened(t, "program "+fourth, "go 9")
	gone := []play{{"run 9", "error 61"}, {"go 9", "error 61"}, {"counts", "error 61"}, {"sites", "error 61"}, {"casts", "error 61"}}
	plays(t, s, play{"defs type B = {y *B;};", "ok 2"}, play{"classes", "ok 2"}, play{"id B", "ok 0"}, play{"id A", "error 21 at 0"})
	plays(t, s, gone...)
	plays(t, s, play{"program " + fourth, "ok 6"}, play{"counts", "ok 0 0 0 0"}, play{"go 9", "ok 0 4 0 7"}, play{"counts", "ok 1 1 1 1"})
	plays(t, s, play{"defs " + set, "ok 4"}, play{"id A", "ok 0"})
	plays(t, s, gone...)
	plays(t, s, play{"defs", "ok 0"}, play{"id A", "error 21 at 0"})
	plays(t, s, gone...)
}

// TestProgramBehindDefs: P15.1, a program's Defs and Methods alone are the set.
func TestProgramBehindDefs(t *testing.T) {
	s := opened(t, "defs type A = {y *A;}; type B = A;")
	plays(t, s, play{"classes", "ok 2"}, play{"program main int { print 1; return 2; }", "ok 3"}, play{"classes", "ok 0"}, play{"id A", "error 21 at 0"}, play{"id int", "ok 0"})
	plays(t, s, play{"program " + fourth, "ok 6"}, play{"classes", "ok 4"}, play{"id bool", "ok 4"}, play{"id text", "ok 4"}, play{"find m A", "ok method A"}, play{"id B", "error 21 at 0"})
	// what functions and bodies name beside them is no part of it
	plays(t, s, play{"program type C = {x int;}; func f(p *int, q fn(bool) text) **C { return nil **C; } main *C { let c = new C{x: 1}; return c; }", "ok 9"}, play{"classes", "ok 2"}, play{"id *int", "ok 2"}, play{"id text", "ok 2"}, play{"ids *C | **C", "ok 2 3"})
	// the order of the parts is that of a program
	plays(t, s, play{"program method A.m() int { return 1; } func f() int { return 1; } type A = {}; main int { return A{}.m() + f(); } ", "ok 5"}, play{"classes", "ok 3"}, play{"methods A", "ok m"}, play{"run 9", "ok 0 5 0 2"})
}

// TestAgain: P15.1, loading again, the same text too, empties cache and counts.
func TestAgain(t *testing.T) {
	s := session.New()
	for range 3 {
		plays(t, s, play{"program " + fourth, "ok 6"}, play{"counts", "ok 0 0 0 0"}, play{"go 9", "ok 0 4 0 7"}, play{"go 2", "ok 50 2 0"}, play{"counts", "ok 1 1 2 1"}, play{"run 9", "ok 0 4 0 7"}, play{"sites", "ok 3:0"})
	}
	for range 3 {
		plays(t, s, play{"defs " + set, "ok 4"}, play{"id A", "ok 0"}, play{"id bool", "ok 4"}, play{"counts", "error 61"})
	}
	plays(t, s, play{"program main int { return 1; }", "ok 3"}, play{"go 9", "ok 0 1 0 1"}, play{"counts", "ok 0 0 0 0"}, play{"program " + fourth, "ok 6"}, play{"counts", "ok 0 0 0 0"}, play{"go 9", "ok 0 4 0 7"}, play{"counts", "ok 1 1 1 1"})
}

// TestLens: P15.1, behind ok is how many classes a set has; of a program those of all its types, and int, bool, text.
func TestLens(t *testing.T) {
	for _, x := range []struct{ line, told, classes string }{
		{"defs", "0", "0"}, {"defs type A = int;", "1", "1"}, {"defs type A = *A; type B = **B;", "1", "1"}, {"defs type A = {}; type B = {};", "1", "1"}, {"defs type A = {}; type B = {}; method B.m() int {}", "4", "4"},
		{"defs type A = {n int; next *A;}; type B = {next *A; n int;}; type C = {n int; next *{n int; next *text;};};", "8", "8"}, {"defs type A = int; type B = A; type C = B;", "1", "1"},
		{"program main int { return 1; }", "3", "0"}, {"program type A = int; main A { return 1; }", "3", "1"}, {"program main fn(int) int { return f; } ", "", ""}, {"program func f(n int) int { return n; } main fn(int) int { return f; }", "4", "0"}, {"program type A = {}; main *A { return new A{}; }", "5", "1"}, {"program " + fourth, "6", "4"},
	} {
		if x.told == "" {
			plays(t, session.New(), play{x.line, "error 21 at 26"})
			continue
		}
		plays(t, opened(t, "defs "+twelve), play{x.line, "ok " + x.told}, play{"classes", "ok " + x.classes})
	}
}
