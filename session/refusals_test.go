package session_test

import (
	"strconv"
	"strings"
	"testing"

	"coil/api"
	"coil/session"
)

// TestTextRefused: P15.1, what lex and parse refuse has its place in TEXT, or in T1 or T2.
func TestTextRefused(t *testing.T) {
	s := opened(t, "defs "+set)
	name := strings.Repeat("a", api.MaxName+1)
	for _, x := range []struct{ typ, why string }{
		{"?", "10 at 0"}, {"int ?", "10 at 4"}, {"* /", "10 at 2"}, {"\xff", "10 at 0"}, {"{x é;}", "10 at 3"}, {"007", "11 at 0"}, {"* 9223372036854775808", "11 at 2"}, {"\"a", "12 at 2"}, {"int \"\t", "12 at 5"}, {"int \"\\x", "12 at 6"},
		{name, "2 at 32"}, {"*" + name, "2 at 33"}, {"a", "13 at 0"}, {"int int", "13 at 4"}, {"{x int}", "13 at 6"}, {"{x int;", "14 at 7"}, {"", "14 at 0"}, {"*", "14 at 1"}, {"fn(int", "14 at 6"}, {"fn(int,", "14 at 7"}, {"interface {m int;}", "13 at 13"},
		{strings.Repeat("*", api.MaxNest) + "int", "15 at 64"}, {"{x int; x int;}", "20 at 8"}, {"interface {m() int; m() int;}", "20 at 20"}, {"{embed x int; x int;}", "20 at 14"},
	} {
		for _, word := range []string{"id ", "label ", "methods ", "find m ", "find ? "} {
			plays(t, s, play{word + x.typ, "error " + x.why})
		}
		for _, word := range []string{"ids ", "below ", "why ", "differ ", "table "} {
			plays(t, s, play{word + x.typ + "|A", "error " + x.why}, play{word + "A|" + x.typ, "error " + x.why}, play{word + x.typ + "|B", "error " + x.why}, play{word + x.typ + "|?", "error " + x.why})
		}
	}
	tokens := strings.Repeat("* ", api.MaxItems)
	plays(t, s, play{"id " + tokens, "error 15 at 128"}, play{"id " + tokens + "*", "error 3 at " + strconv.Itoa(2*api.MaxItems)}, play{"id int" + tokens, "error 3 at " + strconv.Itoa(3+2*(api.MaxItems-1))})
}

// TestTypesRefused: P15.1, what the graph's Add refuses of types is told at 0.
func TestTypesRefused(t *testing.T) {
	s := opened(t, "defs "+set)
	many := "fn(" + strings.Repeat("int, ", api.MaxTypes-1) + "int) int"
	for _, x := range []struct{ typ, why string }{{"B", "21"}, {"*{x fn(Z) int;}", "21"}, {many, "23"}, {"{embed a int;}", "24"}, {"**{x int; embed b *{embed c **A;};}", "24"}, {"{embed a fn() A;}", "24"}} {
		for _, word := range []string{"id ", "label ", "methods ", "find m ", "find z "} {
			plays(t, s, play{word + x.typ, "error " + x.why + " at 0"})
		}
		for _, word := range []string{"ids ", "below ", "why ", "differ ", "table "} {
			plays(t, s, play{word + x.typ + "|A", "error " + x.why + " at 0"}, play{word + "A|" + x.typ, "error " + x.why + " at 0"}, play{word + x.typ + "|" + x.typ, "error " + x.why + " at 0"})
		}
	}
	full := "defs type A = fn(" + strings.Repeat("int, ", api.MaxTypes-4) + "int) int; type B = A;"
	plays(t, s, play{full, "ok 2"}, play{"id B", "ok 0"}, play{"ids A|B", "ok 0 0"}, play{"id bool", "ok 2"}, play{"ids bool | text", "error 23 at 0"}, play{"ids A | bool", "ok 0 2"}, play{"id *A", "ok 2"}, play{"id **A", "error 23 at 0"}, play{"below A | *A", "ok no"}, play{"differ *A | *A", "error 23 at 0"})
	plays(t, s, play{"defs type A = fn(" + strings.Repeat("int, ", api.MaxTypes-3) + "int) int; type B = A;", "ok 2"}, play{"id B", "ok 0"}, play{"id int", "error 23 at 0"})
}

// TestSetRefused: P15.1, what parse and graph refuse of definitions.
func TestSetRefused(t *testing.T) {
	for _, x := range []struct{ text, why string }{
		{"?", "10 at 0"}, {"type A = int; ?", "10 at 14"}, {"type A = 1;", "13 at 9"}, {"type A = int", "14 at 12"}, {"type a = int;", "13 at 5"}, {"main int { return 1; }", "13 at 0"}, {"func f() int {}", "13 at 0"}, {"type A = int; func f() int {}", "13 at 14"}, {"type", "14 at 4"}, {"method A.m()", "14 at 12"}, {"method A.m() int { x }", "13 at 21"},
		{"type A = {x int; x A;};", "20 at 17"}, {"type A = int;" + strings.Repeat(" int", api.MaxItems), "3 at " + strconv.Itoa(14+4*(api.MaxItems-5))},
		{"type A = {}; type A = int;", "20 at 13"}, {"type A = int; type B = A; type A = Z;", "20 at 26"}, {"type A = {m int;}; method A.m() int {}", "20 at 19"}, {"type A = {}; method A.m() int {} method A.m() bool {}", "20 at 33"},
		{"type A = B;", "21 at 0"}, {"type A = int; type B = *{x Z;};", "21 at 14"}, {"type A = {}; method A.m(x Z) int {}", "21 at 13"}, {"type A = {}; method A.m() Z {}", "21 at 13"},
		{"type A = A;", "22 at 0"}, {"type X = int; type A = B; type B = A;", "22 at 14"}, {"type A = fn(" + strings.Repeat("int, ", api.MaxTypes-1) + "int) int;", "23 at 0"},
		{"type A = {embed b B;}; type B = int;", "24 at 0"}, {"type B = {}; type A = {embed b **B;};", "24 at 13"}, {"type B = {}; method B.m(x {embed y int;}) int {}", "24 at 13"}, {"method A.m() int {}", "25 at 0"}, {"type A = int; method A.m() int {}", "25 at 14"},
	} {
		plays(t, session.New(), play{"defs " + x.text, "error " + x.why}, play{"defs  " + x.text, "error " + moved(x.why, 1)}, play{"classes", "error 61"})
		if !strings.HasPrefix(x.why, "13") && !strings.HasPrefix(x.why, "14") { // a program goes on there
			plays(t, session.New(), play{"program " + x.text + " main int { return 0; }", "error " + x.why})
		}
	}
}

// moved is a number and a place, with the place so far behind; those of no text's stay at 0.
func moved(why string, by int) string {
	number, place, _ := strings.Cut(why, " at ")
	at, _ := strconv.Atoi(place)
	if number == "23" {
		by = 0
	}
	return number + " at " + strconv.Itoa(at+by)
}

// TestProgramRefused: P15.1, what check refuses.
func TestProgramRefused(t *testing.T) {
	const types = "type I = interface {m() int;}; type A = {x int;}; method A.m() int { return self.x; } "
	for _, x := range []struct{ text, why string }{
		{"", "14 at 0"}, {"main", "14 at 4"}, {"main int { return 1; } x", "13 at 23"}, {"main int { return ?; }", "10 at 18"}, {"type A = int;", "14 at 13"},
		{"func f() int { return 1; } func f() int { return 2; } main int { return 1; }", "20 at 27"}, {"func f(x Z) int { return 1; } main int { return 1; }", "21 at 0"}, {"main Z { return 1; }", "21 at 0"}, {"main int { return nil *Z; }", "21 at 18"}, {"main int { let a {embed b int;} = 1; return 1; }", "24 at 11"},
		{"main int { return x; }", "21 at 18"}, {"main int { x = 1; return 1; }", "21 at 11"}, {"main int { let a = 1; let a = 2; return a; }", "20 at 22"}, {"main int { return true; }", "40 at 18"}, {"main int { return 1 + \"a\"; }", "40 at 22"}, {"main int { return (1)(2); }", "40 at 19"}, {"main int { print 1; }", "44 at 0"}, {"main int { return self; }", "45 at 18"},
		{types + "main int { return A{x: 1}.m(2); }", "41 at " + strconv.Itoa(len(types)+25)}, {types + "main int { return A{}.x; }", "41 at " + strconv.Itoa(len(types)+18)}, {types + "main int { return A{y: 1}.x; }", "42 at " + strconv.Itoa(len(types)+18)}, {types + "main int { return A{x: 1}.m; }", "42 at " + strconv.Itoa(len(types)+25)},
		{types + "main int { return A{x: 1}.z; }", "30 at " + strconv.Itoa(len(types)+25)}, {types + "type D = {embed a A; embed b A2;}; type A2 = {x int;}; func f(d D) int { return d.x; } main int { return 1; }", "31 at " + strconv.Itoa(len(types)+81)}, {types + "main int { let i I = A{x: 1}; i to int; return 1; }", "43 at " + strconv.Itoa(len(types)+32)},
		{"type A = {}; method A.m() int { } main int { return 1; }", "44 at 13"}, {"type A = fn(" + strings.Repeat("int, ", api.MaxTypes-2) + "int) int; main int { return 1; }", "23 at 0"},
	} {
		plays(t, session.New(), play{"program " + x.text, "error " + x.why}, play{"classes", "error 61"}, play{"run 1", "error 61"})
	}
}

// TestPlaceless: P15.1, refusals that have no place.
func TestPlaceless(t *testing.T) {
	s := opened(t, "defs "+set+" type D = {embed a A; embed b *A;};")
	plays(t, s,
		play{"find z A", "error 30"}, play{"find m int", "error 30"}, play{"find m **A", "error 30"}, play{"find m D", "error 31"}, play{"find x D", "error 31"}, play{"find int A", "error 30"}, play{"find m fn() A", "error 30"}, play{"find m {}", "error 30"},
		play{"table I | A", "error 1"}, play{"table A | A", "error 1"}, play{"table int | int", "error 1"}, play{"table int | *I", "error 1"}, play{"table int | I", "error 40"}, play{"table **A | I", "error 40"}, play{"table D | I", "error 40"}, play{"table interface {} | I", "error 40"},
		play{"run 1", "error 61"}, play{"run", "error 60"}, play{"runs", "error 60"}, play{strings.Repeat("x", api.MaxText+1), "error 2"},
	)
	plays(t, opened(t, "program "+fourth), play{"run -1", "error 4"}, play{"go -1", "error 4"}, play{"run 100001", "error 4"}, play{"go 100001", "error 4"})
}
