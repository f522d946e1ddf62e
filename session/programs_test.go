package session_test

import (
	"strconv"
	"strings"
	"testing"

	"coil/api"
)

// both plays lines by run and by go.
func both(t *testing.T, src string, runs ...play) {
	t.Helper()
	s := opened(t, "program "+src)
	for _, r := range runs {
		plays(t, s, play{"run " + r[0], r[1]}, play{"go " + r[0], r[1]})
	}
}

// TestOutcomes: P15.1 and P15.4, runs that end with each Why.
func TestOutcomes(t *testing.T) {
	long := `"` + strings.Repeat("a", api.MaxString) + `"`
	both(t, "main int { print 1; return 2; }", play{"5", "ok 0 2 1 2"}, play{"2", "ok 0 2 1 2"}, play{"1", "ok 50 1 1"}, play{"0", "ok 50 0 0"}, play{"100000", "ok 0 2 1 2"}, play{"100001", "error 4"}, play{"-1", "error 4"})
	both(t, "main int { while true { } return 1; }", play{"0", "ok 50 0 0"}, play{"7", "ok 50 7 0"}, play{"100000", "ok 50 100000 0"})
	both(t, "type A = {x int;}; main int { let a = nil *A; print 1; return a.x; }", play{"9", "ok 51 3 1"}, play{"3", "ok 51 3 1"}, play{"2", "ok 50 2 1"}, play{"100000", "ok 51 3 1"})
	both(t, "type T = interface {}; main int { let t T = true; print t; print t; return t to int; }", play{"9", "ok 52 4 2"}, play{"4", "ok 52 4 2"}, play{"3", "ok 50 3 2"}, play{"0", "ok 50 0 0"})
	both(t, "main text { let a = \"x\"; while true { a = a + a; } return a; }", play{"99", "ok 53 27 0"}, play{"27", "ok 53 27 0"}, play{"26", "ok 50 26 0"})
	both(t, "main int { let i = 0; while true { print "+long+"; i = i + 1; } return i; }", play{"9999", "ok 53 48 15"})
	both(t, "type R = {a text;}; main R { print 1; return R{a: "+long+"}; }", play{"9", "ok 53 2 1"}, play{"1", "ok 50 1 1"})
	both(t, "func f(n int) int { if n < 1 { return 0; } return f(n - 1) + 1; } main int { print f(499); return f(500); }", play{"100000", "ok 54 3003 1"}, play{"3003", "ok 54 3003 1"}, play{"3002", "ok 50 3002 1"}, play{"0", "ok 50 0 0"})
	both(t, "func f(n int) int { if n < 1 { return 0; } return f(n - 1) + 1; } main int { return f(3); }", play{"13", "ok 0 13 0 3"}, play{"12", "ok 50 12 0"})
}

// TestValues: P15.1, values' texts: of no bytes, of several words, with bytes 10, as they are told.
func TestValues(t *testing.T) {
	for _, x := range []struct{ main, value string }{
		{`text { return ""; }`, ""}, {`text { return " "; }`, " "}, {`text { return "a"; }`, "a"}, {`text { return "a b  c "; }`, "a b  c "}, {`text { return "\n"; }`, `\n`}, {`text { return "a\nb"; }`, `a\nb`}, {`text { return "\n\n a\n"; }`, `\n\n a\n`}, {`text { return "\\n"; }`, `\n`}, {`text { return "\\\n\""; }`, `\\n"`}, {`text { return "ok 1"; }`, "ok 1"},
		{"int { return 0; }", "0"}, {"int { return -5; }", "-5"}, {"bool { return true; }", "true"}, {"A { return A{x: 1, t: \"a\\nb\"}; }", `{t: a\nb, x: 1}`}, {"*A { return new A{x: 1, t: \"\"}; }", "&{t: , x: 1}"}, {"*A { return nil *A; }", "nil"}, {"T { return f; }", "fn f"}, {"T { return E{}; }", "{}"},
	} {
		both(t, "type A = {x int; t text;}; type E = {}; type T = interface {}; func f() int { return 1; } main "+x.main, play{"9", "ok 0 1 0 " + x.value}, play{"1", "ok 0 1 0 " + x.value}, play{"0", "ok 50 0 0"})
	}
}

// TestOutput: P15.1, how many lines of output there are, whatever stands in them.
func TestOutput(t *testing.T) {
	for n, x := range []string{"", "print 1;", `print ""; print "";`, `print "\n"; print "a\nb\n"; print 3;`, `print "a b"; print true; print 5; print "ok";`} {
		both(t, "main int { "+x+" return 7; }", play{"99", "ok 0 " + strconv.Itoa(n+1) + " " + strconv.Itoa(n) + " 7"}, play{strconv.Itoa(n), "ok 50 " + strconv.Itoa(n) + " " + strconv.Itoa(n)})
	}
}

// classes is a program that goes through calls by an interface on records of so many classes, as often.
func classes(n, rounds int) string {
	defs, stmts := "type I = interface {m() int; l() int;}; ", ""
	for i := range n {
		name := "A" + strconv.Itoa(i)
		defs += "type " + name + " = {x int;}; method " + name + ".m() int { return " + strconv.Itoa(i) + "; } method " + name + ".l() int { return 0; } "
		stmts += "i = " + name + "{x: n}; s = s + i.m(); "
	}
	return defs + "main int { let i I = A0{x: 1}; let s = 0; let n = 0; while n < " + strconv.Itoa(rounds) + " { n = n + 1; " + stmts + "} return s; }"
}

// TestCounts: P15.1, counts of all go's together, none of run's, nor of such as were refused.
func TestCounts(t *testing.T) {
	s := opened(t, "program "+fourth)
	plays(t, s, play{"counts", "ok 0 0 0 0"}, play{"run 9", "ok 0 4 0 7"}, play{"counts", "ok 0 0 0 0"}, play{"go 0", "ok 50 0 0"}, play{"go 1", "ok 50 1 0"}, play{"counts", "ok 0 0 0 0"},
		play{"go 2", "ok 50 2 0"}, play{"counts", "ok 1 1 1 1"}, play{"go 100001", "error 4"}, play{"go -1", "error 4"}, play{"go x", "error 60"}, play{"go", "error 60"}, play{"counts x", "error 60"}, play{"counts", "ok 1 1 1 1"}, play{"counts", "ok 1 1 1 1"},
		play{"go 9", "ok 0 4 0 7"}, play{"counts", "ok 1 1 2 1"}, play{"run 9", "ok 0 4 0 7"}, play{"go 3", "ok 50 3 0"}, play{"counts", "ok 1 1 3 1"})
	plays(t, s, play{"program main int { return 1; }", "ok 3"}, play{"go 9", "ok 0 1 0 1"}, play{"counts", "ok 0 0 0 0"})
}

// TestTables: P15.1, C7 and C8, the session's cache keeps MaxTabs tables, from one go to the next.
func TestTables(t *testing.T) {
	for _, n := range []int{1, 2, 15, api.MaxTabs, api.MaxTabs + 1, api.MaxTabs + 3} {
		s := opened(t, "program "+classes(n, 2))
		value := strconv.Itoa(n * (n - 1))
		steps := strconv.Itoa(3 + 2*(2+4*n) + 2)
		for goes := 1; goes <= 3; goes++ {
			builds := n
			if n > api.MaxTabs { // each table is gone when it is asked again
				builds = 2 * goes * n
			}
			plays(t, s, play{"go 999", "ok 0 " + steps + " 0 " + value}, play{"counts", "ok " + strconv.Itoa(builds) + " " + strconv.Itoa(2*builds) + " " + strconv.Itoa(goes*2*n) + " " + strconv.Itoa(n)})
		}
	}
}

// TestSites: P15.1, sites: the calls by interfaces, each with its interface's class and the method's number.
func TestSites(t *testing.T) {
	plays(t, opened(t, "program "+fourth), play{"sites", "ok 3:0"})
	s := opened(t, "program type I = interface {b() I; a() int; c(int) int;}; type A = {i I;}; method A.a() int { return self.i.c(self.i.a()); } type B = {embed i I;}; func f(b B, a A, j interface {z() I; y() int;}) int { return b.a() + a.a() + j.z().b().c(j.y()); } main int { return 1; }")
	i := strings.TrimPrefix(s.Do("id I"), "ok ")
	j := strings.TrimPrefix(opened(t, "defs type I = interface {b() I; a() int; c(int) int;}; type A = {i I;}; method A.a() int {} type B = {embed i I;}; type Z = interface {z() I; y() int;};").Do("id Z"), "ok ")
	if got := s.Do("sites"); !strings.HasPrefix(got, "ok "+i+":2 "+i+":0 "+i+":0 "+i+":2 "+i+":1 ") || strings.Count(got, ":") != 7 || i == j {
		t.Error(got, i, j)
	}
	plays(t, opened(t, "program type A = {}; method A.m() int { return 1; } main int { return A{}.m(); }"), play{"sites", "ok"})
}

// TestCasts: P15.1, casts: up, down.
func TestCasts(t *testing.T) {
	const types = "type I = interface {m() int;}; type A = {x int;}; method A.m() int { return self.x; } "
	for _, x := range []play{{"return 1;", "0 0"}, {"return 1 to int;", "1 0"}, {"let i = A{x: 1} to I; return i.m();", "1 0"}, {"let i I = A{x: 1}; return (i to A).x;", "0 1"}, {"let i I = A{x: 1} to A to I to I; i to *A; i to A; return 1 to interface {} to int;", "4 3"}} {
		plays(t, opened(t, "program "+types+"main int { "+x[0]+" }"), play{"casts", "ok " + x[1]}, play{"run 0", "ok 50 0 0"}, play{"casts", "ok " + x[1]})
	}
}
