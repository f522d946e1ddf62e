package session_test

import (
	"slices"
	"strconv"
	"strings"
	"sync"
	"testing"

	"coil/api"
	"coil/session"
)

// TestAsked: P15.3, what is asked changes nothing of later answers, but go the counts.
func TestAsked(t *testing.T) {
	m := newMaker(17)
	for i := range 60 {
		load := "defs " + m.set()
		if i%2 == 0 {
			load = "program " + m.program()
		}
		s := session.New()
		s.Do(load)
		var lines, answers []string
		for len(lines) < 30 {
			line := m.question()
			if len(lines)%3 == 0 {
				line = one(m, "run ", "go ", "run\t") + strconv.Itoa(m.Intn(500))
			}
			if strings.TrimSpace(line) != "counts" {
				lines = append(lines, line)
				answers = append(answers, s.Do(line))
			}
		}
		for range 3 {
			for _, n := range m.Perm(len(lines)) {
				plays(t, s, play{lines[n], answers[n]})
			}
		}
		fresh := session.New()
		fresh.Do(load)
		for n := range lines {
			last := len(lines) - 1 - n
			plays(t, fresh, play{lines[last], answers[last]})
		}
		if t.Failed() {
			t.Fatal(load)
		}
	}
}

// TestIdsStay: P15.3, the numbers of types to which the definitions lead stay, whatever is asked.
func TestIdsStay(t *testing.T) {
	s := opened(t, "defs type A = {x int; next *A; f fn(bool) A;}; method A.m(p text) *A {} type B = *{y B;};")
	known := []string{"A", "int", "*A", "fn(bool) A", "bool", "fn(text) *A", "text", "B", "*{y B;}", "{y B;}", "{y *{y B;};}"}
	var ids []string
	for _, typ := range known {
		ids = append(ids, s.Do("id "+typ))
	}
	n, _ := strconv.Atoi(strings.TrimPrefix(s.Do("classes"), "ok "))
	for _, line := range []string{"", "id {z A;}", "ids fn() A | fn() fn() A", "below A | interface {m() int;}", "why **A | *B", "differ {a int;} | {a bool;}", "label {q text;}", "find m {embed a A;}", "methods *A", "table A | interface {m(text) *A;}", "id Z", "run 1", "defs type A = A;", "program main int { return x; }"} {
		s.Do(line)
		for i, typ := range known {
			plays(t, s, play{"id " + typ, ids[i]})
			if id, _ := strconv.Atoi(strings.TrimPrefix(ids[i], "ok ")); id >= n {
				t.Error(typ, id)
			}
			plays(t, s, play{"ids {z A;} | " + typ, "ok " + strconv.Itoa(n) + " " + strings.TrimPrefix(ids[i], "ok ")})
		}
	}
}

// TestTwo: P15.3, sessions know nothing of one another, whatever each of them does in turns, nor scripts of sessions.
func TestTwo(t *testing.T) {
	m := newMaker(18)
	for range 30 {
		var scripts, alone [3][]string
		for i := range scripts {
			for range 18 {
				scripts[i] = append(scripts[i], one(m, m.question(), m.question(), m.question(), "go "+strconv.Itoa(m.Intn(200)), "counts", "run "+strconv.Itoa(m.Intn(200)), "defs "+m.set(), "program "+m.program()))
			}
			alone[i] = session.New().Lines(scripts[i]...)
		}
		together := [3]*session.Session{session.New(), session.New(), session.New()}
		for n := range scripts[0] {
			for i, s := range together {
				plays(t, s, play{scripts[i][n], alone[i][n]})
			}
		}
		for i := range scripts {
			script(t, strings.Join(scripts[i], "\n")+"\n", strings.Join(alone[i], "\n")+"\n", api.OK)
		}
	}
}

// TestTwoWithOneProgram: P15.3, each session has a cache of its own.
func TestTwoWithOneProgram(t *testing.T) {
	a, b := opened(t, "program "+fourth), opened(t, "program "+fourth)
	plays(t, a, play{"go 9", "ok 0 4 0 7"}, play{"counts", "ok 1 1 1 1"})
	plays(t, b, play{"counts", "ok 0 0 0 0"}, play{"go 9", "ok 0 4 0 7"}, play{"go 9", "ok 0 4 0 7"}, play{"counts", "ok 1 1 2 1"}, play{"defs", "ok 0"})
	plays(t, a, play{"counts", "ok 1 1 1 1"}, play{"classes", "ok 4"})
}

// TestAtOnce: P15.3, sessions that are at work at the same time.
func TestAtOnce(t *testing.T) {
	lines := []string{"program " + classes(17, 2), "go 999", "counts", "run 999", "table A3 | I", "defs " + twelve, "why A | J", "find m B", "x", "program " + fourth, "go 3", "go 9", "counts"}
	want := session.New().Lines(lines...)
	var all sync.WaitGroup
	for range 8 {
		all.Go(func() {
			for range 20 {
				if got := session.New().Lines(lines...); !slices.Equal(got, want) {
					t.Error(got, want)
				}
			}
		})
	}
	all.Wait()
}

// alike: P15.4, fails, unless run and go with that fuel answer the same; it answers that.
func alike(t *testing.T, s *session.Session, fuel int) string {
	t.Helper()
	n := strconv.Itoa(fuel)
	byNames := s.Do("run " + n)
	plays(t, s, play{"go " + n, byNames}, play{"run " + n, byNames})
	return byNames
}

// stepwise does so with each fuel up to a run's end and behind it, and with such as can't be.
func stepwise(t *testing.T, program string) {
	t.Helper()
	s := opened(t, "program "+program)
	steps, _ := strconv.Atoi(strings.Fields(alike(t, s, api.MaxFuel))[2])
	for fuel := range min(steps+3, 500) {
		alike(t, s, fuel)
	}
	for less := range min(steps, 9) {
		alike(t, s, steps-less)
	}
	for _, fuel := range []int{-1, api.MaxFuel + 1, -1 << 63, 1<<63 - 1} {
		if answer := alike(t, s, fuel); answer != "error 4" {
			t.Error(fuel, answer)
		}
	}
	if t.Failed() {
		t.Fatal(program)
	}
}

// TestAlike: P15.4 and C6, programs of many shapes, with each fuel.
func TestAlike(t *testing.T) {
	for _, main := range []string{
		"main int { return 1; }", "main int { print 1; return 2; }", "main int { while true { } return 1; }", "main bool { return f(3) == 3 and not (f(2) < f(1)); }", "main int { let n = 0; while n < 9 { n = n + 1; if n == 4 { print n; } else { print \"\"; } } return n * n - 1; }",
		"main int { return f(20); }", "main int { return f(600); }", "main text { let t = \"x\"; while true { t = t + t; } return t; }", "main int { while true { print \"0123456789\"; } return 0; }", "main T { return h(h(\"a\\nb\")); }", "main T { return f; }", "main L { return L{n: 1, next: new L{n: 2, next: nil *L}}; }",
		"main int { return D{i: D{i: A{x: 4}}}.m(); }", "main int { return D{i: nil *A}.m(); }", "main int { return (nil *D).m(); }", "main int { let e = E{c: nil *D, j: A{x: 1}}; print e; return e.m(); }", "main I { let i I = B{a: A{x: 1}, y: \"y\"}; print i.m(); return i to *A; }", "main I { return deep(A{x: 1}, 9); }", "main int { return deep(A{x: 1}, 200).m(); }", "main int { return deep(A{x: 1}, 700).m(); }",
		"main J { let j J = A{x: 1}; return j.n(j).n(D{i: j}).n(j.n(j)); }", "main int { let t T = 5; return (t to int) + (t to text to T to int); }", "main int { let l = nil *L; let n = 0; while n < 9 { l = new L{n: n, next: l}; n = n + 1; } print l; n = 0; while true { n = n + l.n; l = l.next; print n; } return n; }", "main bool { if false { return true; } while false { return true; } return (1 < 2) == true and false or (0 < -1) == true; }",
	} {
		stepwise(t, shapes+main)
	}
	stepwise(t, fourth)
	stepwise(t, classes(17, 3))
}

// TestAlikeByChance: P15.4 and C5, programs made by chance; no run ends otherwise than it may.
func TestAlikeByChance(t *testing.T) {
	m := newMaker(19)
	for range 120 {
		src := m.program()
		s := session.New()
		if !strings.HasPrefix(s.Do("program "+src), "ok") {
			continue
		}
		answer := alike(t, s, 3000)
		if why := strings.Fields(answer)[1]; !slices.Contains([]string{"0", "50", "51", "52", "53", "54"}, why) {
			t.Error(src, answer)
		}
		for range 25 {
			alike(t, s, m.Intn(120))
		}
	}
}
