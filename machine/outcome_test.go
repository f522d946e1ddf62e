package machine_test

import (
	"slices"
	"strconv"
	"strings"
	"testing"

	"coil/api"
	"coil/machine"
)

// says tell when they are come to.
const says = set + "func say(n int) int { print n; return n; } func yes(n int) bool { print n; return true; } func no(n int) bool { print n; return false; } func of(n int) A { print n; return A{x: n}; } func none(n int) *A { print n; return nil *A; } func any(n int) I { print n; return A{x: n}; } "

// TestStatements: P14.1, statements and expressions of all sorts, in the order of the text, with each fuel.
func TestStatements(t *testing.T) {
	long := `"` + strings.Repeat("a", api.MaxString) + `"`
	for stmts, want := range map[string]string{
		"print say(1) - say(2) * say(3);": "1|2|3|-5",
		"print B{y: of(1).k(), a: of(say(2) + 1)}; print new H{j: of(4), h: nil *H, i: of(5)};":                                                "1|2|3|{a: {x: 3}, y: k}|4|5|&{h: nil, i: {x: 5}, j: {x: 4}}",
		"print no(1) and yes(2) or yes(3); print yes(4) or no(5) and no(6); print (yes(7) or no(8)) and no(9);":                                "1|3|true|4|true|7|9|false",
		"print yes(1) and yes(2) and no(3) and yes(4); print not (no(5) or no(6));":                                                            "1|2|3|false|5|6|true",
		"if yes(1) { say(2); } else { say(3); } if no(4) { say(5); } else { say(6); } if no(7) { say(8); } say(9);":                            "1|2|4|6|7|9",
		"let i = 0; while i < 3 { i = i + 1; let v = i; if i == 2 { print v; } } print i;":                                                     "2|3",
		"while yes(1) { while yes(2) { return say(3); } }":                                                                                     "1|2|3",
		"print D{i: G{j: F{d: new D{i: A{x: 1}}, z: 2}.d.i to J, w: 3}}.m(); print D{i: D{i: new D{i: of(4)}}}.m();":                           "1|4|4",
		"let j J = G{w: 1, j: C{a: new A{x: 2}}}; print j.n(D{i: j}).m() + j.m(); print j.k();":                                                "4|k",
		"print any(1).m() + D{i: any(2)}.m() * any(3).m(); let j J = of(4); print j.n(any(5)).n(D{i: any(6)}).m();":                            "1|2|3|7|4|5|6|4",
		"of(1).n(none(2)).m(); none(3).n(of(4));":                                                                                              "1|2|3|4",
		"let j J = none(1); j.n(of(2)); say(3);":                                                                                               "1|2",
		"print C{a: none(1)}.n(of(2)); say(3);":                                                                                                "1|2",
		"let t T = of(1); print t to I to T to A; print t to *A; say(2);":                                                                      "1|{x: 1}",
		"let f = say; let g = f; print (g)(1) + f(say(2)); print g; let h fn(int) T = of; print h(3);":                                         "1|2|2|3|fn say|3|{x: 3}",
		"if true { let say = 5; print say; } let say = say; say(1);":                                                                           "5|1",
		"print - - say(1); print 9223372036854775807 + say(2); print 0 - 9223372036854775807 - say(3) * 3;":                                    "1|1|2|-9223372036854775807|3|9223372036854775800",
		"print \"b\" < \"a\"; print \"a\" < \"b\"; print \"a\" == \"a\"; print 2 < 1; print true == false; print \"\" + \"c\";":                "false|true|true|false|false|c",
		"say(1); print (" + long + " == " + long + "); say(2); print " + long + " + \"\" == " + long + "; print " + long + " + \"b\"; say(3);": "1|true|2|true",
		"say(1); let v = " + long[:1] + "b" + long[1:] + "; say(2);":                                                                           "1",
		"say(1); say(2 + say(3)) < say(4);":                                                                                                    "1|3|5|4",
	} {
		o := stepwise(t, stmts, made(t, says+"main int { "+stmts+" return 0; }"))
		if got := strings.Join(o.Out, "|"); got != want {
			t.Errorf("%s: %s, not %s", stmts, got, want)
		}
	}
}

// TestResults: P14.1, the text of what is returned, whatever it is, and where that is too long.
func TestResults(t *testing.T) {
	text := `"` + strings.Repeat("a", api.MaxString-5) + `"`
	for main, want := range map[string]string{
		"int { return 0 - 5; }": "-5", "bool { return 1 < 2; }": "true", "text { return \"a\" + \"b\"; }": "ab", "I { return A{x: 1}; }": "{x: 1}", "T { return new D{i: new A{x: 1}}; }": "&{i: &{x: 1}}", "*A { return nil *A; }": "nil", "fn(int) int { return f; }": "fn f",
		"R { return R{a: " + text + "}; }": "{a: " + text[1:len(text)-1] + "}", "T { return new R{a: " + text + "}; }": "",
	} {
		o := alike(t, main, made(t, set+"type R = {a text;}; func f(n int) int { return n; } main "+main), 9)
		if o.Value != want || (o.Why == api.OK) != (want != "") || o.Steps != 1 {
			t.Error(main, o.Why, len(o.Value), o.Steps)
		}
	}
}

// TestLimits: P14.1, output, texts and calls of just as many as there may be, and of one more.
func TestLimits(t *testing.T) {
	long := func(n int) string { return `"` + strings.Repeat("a", n) + `"` }
	for _, x := range []struct {
		src string
		why api.Errno
	}{
		{"main int { let i = 0; while i < 16 { print " + long(4095) + "; i = i + 1; } return i; }", api.OK},
		{"main int { let i = 0; while i < 16 { print " + long(4095) + "; i = i + 1; } print \"\"; return i; }", api.ErrBig},
		{"main int { let i = 0; while i < 16 { print " + long(4096) + "; i = i + 1; } return i; }", api.ErrBig},
		{"main text { let i = 0; while i < 16 { print " + long(4095) + "; i = i + 1; } return " + long(4096) + "; }", api.OK},
		{"func f(n int) int { if n < 1 { return 0; } return f(n - 1) + 1; } main int { print f(499); return f(499); }", api.OK},
		{"func f(n int) int { if n < 1 { return 0; } return f(n - 1) + 1; } main int { print f(499); return f(500); }", api.ErrCalls},
		{"type A = {}; method A.m(n int) int { return f(n); } func f(n int) int { if n < 1 { return 0; } return A{}.m(n - 1); } main int { return A{}.m(249); }", api.OK},
		{"type A = {}; method A.m(n int) int { return f(n); } func f(n int) int { if n < 1 { return 0; } return A{}.m(n - 1); } main int { return A{}.m(250); }", api.ErrCalls},
		{"type I = interface {m(int) int;}; type A = {}; method A.m(n int) int { let i I = self; if n < 1 { return 0; } return i.m(n - 1); } main int { return A{}.m(499); }", api.OK},
		{"type I = interface {m(int) int;}; type A = {}; method A.m(n int) int { let i I = self; if n < 1 { return 0; } return i.m(n - 1); } main int { return A{}.m(500); }", api.ErrCalls},
		{"type A = {}; method A.m(n int) int { return n; } func f(n int) int { if n < 1 { return nil *A.m(n); } return f(n - 1); } main int { return f(499); }", api.ErrNil}, // nothing is called
		{"func f(n int) int { return n; } main int { let i = 0; while i < 1000 { i = f(f(f(i))) + 1; } return i; }", api.OK},
		{"main text { let a = \"x\"; while true { a = a + a; } return a; }", api.ErrBig},
		{"func f() int { while true { } return f(); } main int { return f(); }", api.ErrFuel},
	} {
		c := made(t, x.src)
		o := alike(t, x.src, c, api.MaxFuel)
		if o.Why != x.why {
			t.Error(x.src, o.Why)
		}
		for _, less := range []int{1, 2, 3, 4, 5} {
			alike(t, x.src, c, o.Steps-less)
		}
	}
}

// TestNew: P14.1, each run begins anew: with its own output, steps, variables and open calls.
func TestNew(t *testing.T) {
	c := made(t, "func f(n int) int { if n < 1 { return 0; } return f(n - 1) + 1; } main int { let n = 0; while n < 3 { n = n + 1; print n; } print f(300); return n; }")
	whole, _ := machine.Run(c, 5000, 1)
	if !slices.Equal(whole.Out, []string{"1", "2", "3", "300"}) || whole.Value != "3" {
		t.Fatal(whole)
	}
	fuels := []int{5000, 20, 700, 701, 5000, 0, 9, 5000}
	l, _ := machine.Runs(c, 1, fuels...)
	for i, fuel := range fuels {
		if want := alike(t, strconv.Itoa(fuel), c, fuel); !same(l[i], want) {
			t.Error(fuel, l[i], want)
		}
	}
}
