package interp_test

import (
	"testing"

	"coil/api"
)

// TestVariables: SLet and SSet, and which variable is meant where.
func TestVariables(t *testing.T) {
	mains(t,
		row{"let a = 1; print a; a = 2; print a; a = a + a; print a;", "1|2|4", api.OK, "", 6},
		row{"let i I = A{x: 1}; print i; i = new A{x: 2}; print i; i = D{i: i}; print i;", "{x: 1}|&{x: 2}|{i: &{x: 2}}", api.OK, "", 6},
		row{"let a = 1; let b = a; a = 2; print b; print a;", "1|2", api.OK, "", 5},
		row{"let a = 1; if true { let b = a + 1; a = b; print b; } print a; if true { let b = \"b\"; print b; } else { let b = true; print b; }", "2|2|b", api.OK, "", 9},
		row{"let a = 1; if true { a = 2; if true { a = a + 1; } } print a;", "3", api.OK, "", 6},
		row{"let i = 0; while i < 2 { let b = i * 10; print b; b = 7; i = i + 1; } print i;", "0|10|2", api.OK, "", 13},
		row{"let twice = twice; print twice; print twice(2);", "fn twice|4", api.OK, "", 5}, // a variable that hides a function
		row{"let i = 0; while i < 2 { print twice; let twice = i; print twice; i = i + 1; } print twice;", "fn twice|0|fn twice|1|fn twice", api.OK, "", 13},
		row{"if true { let twice = 1; print twice; } else { } print twice(4);", "1|8", api.OK, "", 6},
		row{"let a = say(1) + say(2); print a; a = say(3); print a;", "1|2|3|3|3", api.OK, "", 13},
	)
	runs(t, // each call has variables of its own
		row{"func f(n int) int { let a = n; if 0 < n { f(n - 1); } print a; a = 9; return a; } main int { let a = 5; f(2); return a; }", "0|1|2", api.OK, "5", 1 + 1 + 3*(1+2+3) + 2 + 1},
		row{"func f(f int) int { return f + 1; } main int { return f(f(1)); }", "", api.OK, "3", 5},
		row{set + "func f(a A, b A) A { let c = a; a = b; b = c; print a; return b; } main A { let a = A{x: 1}; let b = A{x: 2}; print f(a, b); print a; return b; }", "{x: 2}|{x: 1}|{x: 1}", api.OK, "{x: 2}", 11},
	)
}

// TestIf: SIf, one of its blocks.
func TestIf(t *testing.T) {
	mains(t,
		row{"if true { print 1; } else { print 2; } print 3;", "1|3", api.OK, "", 3},
		row{"if false { print 1; } else { print 2; } print 3;", "2|3", api.OK, "", 3},
		row{"if false { print 1; } print 3;", "3", api.OK, "", 2},
		row{"if true { } print 3;", "3", api.OK, "", 2},
		row{"if yes(1) { print 2; if no(3) { print 4; } else { if yes(5) { print 6; } } }", "1|2|3|5|6", api.OK, "", 5 + 3*3},
	)
	runs(t, row{"main int { if true { return 1; } print 2; return 3; }", "", api.OK, "1", 2}, row{"main int { if 1 < 0 { } else { print 1; return 2; } return 3; }", "1", api.OK, "2", 3})
}

// TestWhile: SWhile is counted ahead of each look at its expression.
func TestWhile(t *testing.T) {
	mains(t,
		row{"while false { print 1; }", "", api.OK, "", 1},
		row{"let i = 0; while i < 1 { i = i + 1; }", "", api.OK, "", 4},
		row{"let i = 0; while i < 3 { print i; i = i + 1; }", "0|1|2", api.OK, "", 11},
		row{"let i = 0; while say(i) < 2 { i = i + 1; }", "0|1|2", api.OK, "", 1 + 3*(1+3) + 2},
		row{"let i = 0; while i < 2 { i = i + 1; let k = 0; while k < i { k = k + 1; print k; } }", "1|1|2", api.OK, "", 1 + 3 + 2*2 + 2 + 3 + 3*2},
		row{"while true { let a = nil *A; while true { print a.x; } }", "", api.ErrNil, "", 4},
	)
	runs(t,
		row{"main int { let i = 0; while true { i = i + 1; if 2 < i { return i; } } return 0; }", "", api.OK, "3", 1 + 3 + 6 + 1},
		row{"main int { while true { while true { return 7; } } return 0; }", "", api.OK, "7", 3},
		row{"main int { let i = 0; while i < 3 { i = i + 1; } return i; }", "", api.OK, "3", 9},
	)
}

// TestReturn: SReturn ends its call alone.
func TestReturn(t *testing.T) {
	runs(t,
		row{"func f() int { print 1; return 2; print 3; return 4; } main int { print f(); return 5; return 6; }", "1|2", api.OK, "5", 5},
		row{"func f(n int) text { while true { if n == 3 { return \"three\"; } n = n + 1; } return \"\"; } main text { return f(1) + f(3); }", "", api.OK, "threethree", 1 + 2 + (3 + 5 + 1) + (1 + 1 + 1)},
		row{set + "main V { return V{}; }", "", api.OK, "{}", 1}, row{set + "main *L { return nil *L; }", "", api.OK, "nil", 1}, row{set + "main T { return true; }", "", api.OK, "true", 1}, row{"main text { return \"\"; }", "", api.OK, "", 1},
	)
}

// TestDo: SDo, an expression for what it does.
func TestDo(t *testing.T) {
	mains(t, row{"say(1); (1); A{x: say(2)}; true;", "1|2", api.OK, "", 4 + 2*3}, row{"1 + say(1); none(2).x; print 3;", "1|2", api.ErrNil, "", 2 + 2*3})
}

// TestPrint: SPrint, a value of each kind, with that kind's text.
func TestPrint(t *testing.T) {
	prints(t, 0,
		"0 => 0", "5 => 5", "-5 => -5", "9223372036854775807 => 9223372036854775807", "true => true", "false => false", `"" => `, `"a b" => a b`, `"\"\\" => "\`,
		"A{x: 3} => {x: 3}", "V{} => {}", "new V{} => &{}", "nil *A => nil", "new A{x: 3} => &{x: 3}", "twice => fn twice", "L{next: new L{n: 2, next: nil *L}, n: 1} => {n: 1, next: &{n: 2, next: nil}}",
		`B{y: "y", a: A{x: 1}} => {a: {x: 1}, y: y}`, "D{i: D{i: new A{x: 1}}} => {i: {i: &{x: 1}}}",
	)
	mains(t, row{`print "a\nb"; print ""; print "";`, "a\nb||", api.OK, "", 3})
}

// TestSteps: each statement and each call is counted ahead of it, whatever it comes to.
func TestSteps(t *testing.T) {
	runs(t,
		row{"func f() int { return 1; } main int { f(); f(); return f() + f(); }", "", api.OK, "2", 3 + 4*2},
		row{"func f() int { return g(); } func g() int { return h(); } func h() int { return 1; } main int { return f(); }", "", api.OK, "1", 7},
		row{set + "main int { return A{x: 1}.n(A{x: 2}).n(A{x: 3}).m(); }", "", api.OK, "6", 1 + 2*(2+2) + 2},
	)
	mains(t,
		row{"let a = nil *A; a.x;", "", api.ErrNil, "", 2}, row{"let a = nil *A; print a.m();", "", api.ErrNil, "", 2}, row{"let t T = 1; t to text;", "", api.ErrDown, "", 2},
		row{"print say(1) + none(2).m();", "1|2", api.ErrNil, "", 1 + 2*3}, // not counted: it isn't called
	)
}
