package session_test

import (
	"testing"

	"coil/session"
)

// TestRuns: P15.1, the chapter's runs, in their order.
func TestRuns(t *testing.T) {
	s := session.New()
	plays(t, s,
		play{"id int", "error 61"},
		play{"defs type I = interface {m() int;}; type A = {x int;}; method A.m() int {}", "ok 4"},
		play{"id A", "ok 0"}, play{"id bool", "ok 4"}, play{"ids *A | *A", "ok 4 4"}, play{"below A | I", "ok yes"}, play{"below I | A", "ok no"},
		play{"why I | A", "ok at once"}, play{"why A | I", "ok below"}, play{"find m A", "ok method A"}, play{"find z A", "error 30"}, play{"find m I", "ok iface"},
		play{"table A | I", "ok m:A"}, play{"label A", "ok record of A x"},
		play{"id a", "error 13 at 0"}, play{"id B", "error 21 at 0"}, play{"defs type A = A;", "error 22 at 0"}, play{"classes", "ok 4"},
		play{"run 5", "error 61"}, play{"program main int { print 1; return 2; }", "ok 3"}, play{"run 5", "ok 0 2 1 2"}, play{"go 5", "ok 0 2 1 2"}, play{"counts", "ok 0 0 0 0"},
		play{"run 1", "ok 50 1 1"}, play{"run -1", "error 4"}, play{"run x", "error 60"}, play{"nonsense", "error 60"}, play{"# note", ""},
	)
}

// TestExamples: P15.1, the chapter's examples.
func TestExamples(t *testing.T) {
	plays(t, session.New(), play{"defs", "ok 0"}, play{"classes", "ok 0"}, play{"id int", "ok 0"}, play{"below int", "error 60"})
	plays(t, session.New(),
		play{"program " + fourth, "ok 6"}, play{"go 9", "ok 0 4 0 7"}, play{"counts", "ok 1 1 1 1"},
		play{"program " + fourth, "ok 6"}, play{"counts", "ok 0 0 0 0"}, play{"go 9", "ok 0 4 0 7"}, play{"counts", "ok 1 1 1 1"},
	)
}
