package session_test

import (
	"strconv"
	"strings"
	"testing"
	"time"

	"coil/api"
	"coil/session"
)

// soon fails, unless something ends within a time that is far more than it needs.
func soon(t *testing.T, do func()) {
	t.Helper()
	done := make(chan struct{})
	go func() {
		defer close(done) // also when do fails at once
		do()
	}()
	select {
	case <-done:
	case <-time.After(time.Minute):
		t.Fatal("it does not end")
	}
}

// TestLargeSet: R1, a set in which nearly each pair of types leads to each, and all that is asked of it.
func TestLargeSet(t *testing.T) {
	const n = 330
	var b strings.Builder
	name := func(i int) string { return "R" + strconv.Itoa(i%n) }
	for i := range n {
		b.WriteString("type " + name(i) + " = ")
		if i == 17 {
			b.WriteString("interface {m() R0;};")
			continue
		}
		b.WriteString("fn(" + name(i*7+3) + ", " + name(i*i+1) + ") *" + name(i*3+3) + ";")
	}
	soon(t, func() {
		s := opened(t, "defs "+b.String())
		for i := range 20 {
			pair := name(i) + " | " + name(i*31+1)
			for _, line := range []string{"id *" + name(i), "ids " + pair, "below " + pair, "why " + pair, "differ " + pair, "label " + name(i), "methods " + name(i), "table R17 | R17"} {
				if got := s.Do(line); !strings.HasPrefix(got, "ok ") && got != "ok" {
					t.Error(line, got)
				}
			}
		}
	})
}

// TestLongChain: R1, records that are embedded as deep as a set has room for.
func TestLongChain(t *testing.T) {
	const n = 350
	var b strings.Builder
	for i := range n {
		b.WriteString("type R" + strconv.Itoa(i) + " = {embed e" + strconv.Itoa(i) + " *R" + strconv.Itoa(i+1) + ";};")
	}
	set := b.String() + "type R" + strconv.Itoa(n) + " = {x int;}; method R" + strconv.Itoa(n) + ".m() int {}"
	soon(t, func() {
		s := opened(t, "defs "+set)
		plays(t, s, play{"methods R0", "ok m"}, play{"below R0 | interface {m() int;}", "ok yes"}, play{"why R1 | R0", "ok at once"}, play{"table R0 | interface {m() int;}", "ok m:R" + strconv.Itoa(n)})
		want := "ok field"
		for i := range n {
			want += " e" + strconv.Itoa(i)
		}
		plays(t, s, play{"find x R0", want})
	})
}

// TestManyRuns: R1, a script of as many lines as there may be, each a run of as many steps.
func TestManyRuns(t *testing.T) {
	const program = "program main int { while true { } return 1; }\n"
	for _, word := range []string{"run", "go"} {
		soon(t, func() {
			line := word + " " + strconv.Itoa(api.MaxFuel) + "\n"
			script(t, program+strings.Repeat(line, api.MaxLines-1), "ok 3\n"+strings.Repeat("ok 50 100000 0\n", api.MaxLines-1), api.OK)
		})
	}
}

// TestManyLoads: R1 and P15.1, very many loads and runs in one session.
func TestManyLoads(t *testing.T) {
	soon(t, func() {
		s := session.New()
		for range 2000 {
			plays(t, s, play{"program " + fourth, "ok 6"}, play{"go 9", "ok 0 4 0 7"}, play{"counts", "ok 1 1 1 1"}, play{"defs " + set, "ok 4"}, play{"id *A", "ok 4"})
		}
		plays(t, s, play{"program " + fourth, "ok 6"})
		for i := range 20000 {
			plays(t, s, play{"go 9", "ok 0 4 0 7"}, play{"counts", "ok 1 1 " + strconv.Itoa(i+1) + " 1"})
		}
	})
}

// TestLongLinesOfAllSorts: R1, lines of as many bytes as they may have, all alike or nearly so.
func TestLongLinesOfAllSorts(t *testing.T) {
	soon(t, func() {
		for _, s := range []*session.Session{session.New(), opened(t, "defs "+set), opened(t, "program "+fourth)} {
			for _, c := range commands() {
				for _, part := range []string{"|", " |", " x", " A |", "x", "(", " (", "\n", " \"", "{", " *", "\t0", " 1", " -", "\xff", "interface{", " // ", " fn(", ";", " type A=", " main int {"} {
					line := c.word + " " + strings.Repeat(part, api.MaxText/len(part)-9)
					if got := s.Do(line); got == "" || strings.Contains(got, "\n") || got == "error 2" {
						t.Errorf("%.50q: %q", line, got)
					}
				}
			}
		}
	})
}
