package interp_test

import (
	"testing"

	"coil/api"
)

// TestNumbers: XNeg, XMul, XAdd, XSub of ints, with wrap-round.
func TestNumbers(t *testing.T) {
	prints(t, 0,
		"1 + 2 => 3", "1 - 2 => -1", "3 * 4 => 12", "-7 => -7", "- -7 => 7", "-0 => 0", "2 + 3 * 4 => 14", "(2 + 3) * 4 => 20", "10 - 3 - 2 => 5", "10 - (3 - 2) => 9", "-2 * 3 => -6", "2 * -3 + 1 => -5",
		"9223372036854775807 + 1 => -9223372036854775808", "9223372036854775807 + 9223372036854775807 => -2", "-9223372036854775807 - 1 => -9223372036854775808",
		"-9223372036854775807 - 2 => 9223372036854775807", "-9223372036854775807 - 9223372036854775807 => 2", "-(-9223372036854775807 - 1) => -9223372036854775808",
		"9223372036854775807 * 2 => -2", "9223372036854775807 * 9223372036854775807 => 1", "4611686018427387904 * 2 => -9223372036854775808", "4294967296 * 4294967296 => 0", "3037000500 * 3037000500 => -9223372036709301616",
		"(-9223372036854775807 - 1) * -1 => -9223372036854775808", "0 - (-9223372036854775807 - 1) => -9223372036854775808",
	)
}

// TestTexts: XAdd, XEq, XLess of texts.
func TestTexts(t *testing.T) {
	prints(t, 0,
		`"a" + "b" => ab`, `"" + "" => `, `"a" + "" => a`, `"" + "b" + "c" => bc`, `"a" + ("b" + "c") => abc`, `"a" == "a" => true`, `"a" == "b" => false`, `"a" + "b" == "ab" => true`, `"" == "" => true`, `"a" == "" => false`,
		`"a" < "b" => true`, `"b" < "a" => false`, `"a" < "a" => false`, `"" < "a" => true`, `"" < "" => false`, `"B" < "a" => true`, `"a" < "B" => false`, `"ab" < "b" => true`, `"a" < "ab" => true`, `"ab" < "a" => false`, `"10" < "9" => true`, `"\n" < " " => true`, `"~" < "a" => false`,
	)
}

// TestTruths: XEq, XLess, XNot, XAnd, XOr.
func TestTruths(t *testing.T) {
	prints(t, 0,
		"1 == 1 => true", "1 == 2 => false", "true == true => true", "false == false => true", "true == false => false", "false == true => false", "1 < 2 => true", "2 < 1 => false", "1 < 1 => false", "-1 < 1 => true", "-2 < -1 => true", "1 < -1 => false",
		"9223372036854775807 + 1 < 0 => true", "not true => false", "not false => true", "not not true => true", "not (1 < 2) == true => false",
		"true and true => true", "true and false => false", "false and true => false", "false and false => false", "true or true => true", "true or false => true", "false or true => true", "false or false => false",
		"true or true and false => true", "(true or true) and false => false", "not true or true => true",
	)
}

// TestDecided: the second part of XAnd, XOr only if the first one doesn't decide.
func TestDecided(t *testing.T) {
	mains(t,
		row{"print no(1) and yes(2);", "1|false", api.OK, "", 1 + 2 + 1}, row{"print yes(1) and yes(2);", "1|2|true", api.OK, "", 1 + 6}, row{"print yes(1) and no(2);", "1|2|false", api.OK, "", 1 + 6},
		row{"print yes(1) or yes(2);", "1|true", api.OK, "", 1 + 2 + 1}, row{"print no(1) or yes(2);", "1|2|true", api.OK, "", 1 + 6}, row{"print no(1) or no(2);", "1|2|false", api.OK, "", 1 + 6},
		row{"print no(1) and yes(2) or yes(3);", "1|3|true", api.OK, "", 1 + 6}, row{"print yes(1) or no(2) and no(3);", "1|true", api.OK, "", 1 + 3}, row{"print no(1) and yes(2) and yes(3) and yes(4);", "1|false", api.OK, "", 1 + 3},
		row{"print (yes(1) or no(2)) and no(3);", "1|3|false", api.OK, "", 1 + 6}, row{"print no(1) and (yes(2) or yes(3));", "1|false", api.OK, "", 1 + 3},
		row{"print true or none(1).x == 1; print false and nil *A.x == 1; print true and nil *A.x == 1;", "true|false", api.ErrNil, "", 3},
	)
}

// TestOrder: parts from the left, each once; those of a record in the order of the text.
func TestOrder(t *testing.T) {
	mains(t,
		row{"print say(1) - say(2) * say(3);", "1|2|3|-5", api.OK, "", 1 + 9}, row{"print say(1) * say(2) - say(3);", "1|2|3|-1", api.OK, "", 1 + 9}, row{"print say(1) < say(2);", "1|2|true", api.OK, "", 1 + 6}, row{"print say(2) == say(1);", "2|1|false", api.OK, "", 1 + 6},
		row{"print L{next: nil *L, n: say(1)};", "1|{n: 1, next: nil}", api.OK, "", 1 + 3}, row{"print -say(1) + say(2);", "1|2|1", api.OK, "", 1 + 6},
		row{"print K{i: of(1), a: of(2)}; print K{a: of(3), i: of(4)}; print new K{i: of(5), a: of(6)};", "1|2|{a: {x: 2}, i: {x: 1}}|3|4|{a: {x: 3}, i: {x: 4}}|5|6|&{a: {x: 6}, i: {x: 5}}", api.OK, "", 3 + 6*3},
		row{"print of(1).n(of(2)).n(of(3));", "1|2|3|{x: 6}", api.OK, "", 1 + 3*3 + 2*(2+2)},
		row{"let t T = of(say(1)); print (t to A).n(of(2));", "1|1|2|{x: 3}", api.OK, "", 2 + 3*3 + 2 + 2},
		row{"print none(say(1)).n(of(2));", "1|1|2", api.ErrNil, "", 1 + 3*3},     // behind the arguments
		row{"print of(1).n(none(2).n(of(3)));", "1|2|3", api.ErrNil, "", 1 + 3*3}, // ahead of the first one's call
		row{"print L{n: none(1).x, next: new L{n: say(2), next: nil *L}};", "1", api.ErrNil, "", 1 + 3},
	)
}

// TestRecords: XRec, XNew, XNil make values of the definition's class, the pointer's class, T's class.
func TestRecords(t *testing.T) {
	prints(t, 0,
		"Q{x: 1} to T to A => {x: 1}", "new Q{x: 1} to T to *A => &{x: 1}", "nil *Q to T to *A => nil", "V{} to T to {} => {}", "nil **A to T to **Q => nil",
		"(A{x: 1} to I) to A => {x: 1}", "new L{n: 1, next: new L{n: 2, next: nil *L}} to T to *L => &{n: 1, next: &{n: 2, next: nil}}",
	)
	mains(t, row{"print V{} to T to A;", "", api.ErrDown, "", 1}, row{"print new V{} to T to V;", "", api.ErrDown, "", 1}, row{"print V{} to T to *V;", "", api.ErrDown, "", 1}, row{"print nil *A to T to *V;", "", api.ErrDown, "", 1}, row{"print nil *A to T to **A;", "", api.ErrDown, "", 1})
	mains(t, // a record that was made stays as it is
		row{"let a = A{x: 1}; let b = B{a: a, y: \"y\"}; a = A{x: 2}; print b; print a; let p = new L{n: 1, next: nil *L}; let q = new L{n: 2, next: p}; p = q; print p; print q.next;", "{a: {x: 1}, y: y}|{x: 2}|&{n: 2, next: &{n: 1, next: nil}}|&{n: 1, next: nil}", api.OK, "", 10},
	)
}

// TestCasts: XTo, up and down: a value goes up as it is, and down by its own class.
func TestCasts(t *testing.T) {
	prints(t, 0,
		"1 to int => 1", "1 to T => 1", "1 to T to int => 1", `"a" to T to text => a`, "true to T to bool => true", "twice to T to fn(int) int => fn twice", "twice to T to fn(int) T => fn twice",
		"A{x: 1} to I => {x: 1}", "A{x: 1} to J to I to T to J to A => {x: 1}", "new A{x: 1} to I to *A => &{x: 1}", "nil *A to I to *A => nil", "nil *A to J to T to I => nil",
		`B{a: A{x: 1}, y: ""} to I to B => {a: {x: 1}, y: }`, "D{i: A{x: 1}} to I to D => {i: {x: 1}}", "D{i: A{x: 1}} to I to D to I to T to I => {i: {x: 1}}",
		"C{a: nil *A} to J to C => {a: nil}", "of to T to fn(int) I => fn of", "of to fn(int) J => fn of", "none to fn(int) I => fn none",
	)
	for _, x := range []string{
		"1 to T to text", "1 to T to A", "1 to T to I", "1 to T to *int", `"1" to T to int`, "A{x: 1} to T to *A", "A{x: 1} to I to B", "new A{x: 1} to I to A", "nil *A to I to A", "nil *A to T to **A", "nil *A to T to A",
		"A{x: 1} to T to {x int;}", "V{} to T to I", "B{a: A{x: 1}, y: \"\"} to I to A", "D{i: A{x: 1}} to I to J", "D{i: A{x: 1}} to I to A", "nil *D to T to J", "twice to T to fn(int) text", "twice to T to fn() int", "twice to T to fn(T) int", "of to T to fn(int) D", "nil **A to T to I",
		"C{a: nil *A} to I to {embed a *A;} to T to D",
	} {
		mains(t, row{"let t T = say(1); t = " + x + ";", "1", api.ErrDown, "", 5})
	}
	runs(t,
		// a record or pointer whose fields are below, and one whose embedded field is another
		row{set + "type W = {a I;}; type X = {a A;}; main T { let w W = X{a: A{x: 1}}; let t T = w; print t to X; print t to W; let p *W = new X{a: A{x: 2}}; print (p to T) to *X; print p.a; print p.a.m(); return p to T to *W; }", "{a: {x: 1}}|{a: {x: 1}}|&{a: {x: 2}}|{x: 2}|2", api.OK, "&{a: {x: 2}}", 11},
		row{set + "type W = {a I;}; type X = {a A;}; main T { let t T = W{a: A{x: 1}}; print t to W; return t to X; }", "{a: {x: 1}}", api.ErrDown, "", 3},
		row{set + "type W = {embed a I;}; type X = {embed a A;}; main T { let t T = X{a: A{x: 1}}; print t to I; print t to J; return t to W; }", "{a: {x: 1}}|{a: {x: 1}}", api.ErrDown, "", 4},
		// an interface that comes back to itself
		row{"type N = interface {next() N;}; type M = interface {next() M;}; type O = interface {next() interface {};}; type R = {n int;}; method R.next() *R { return new R{n: self.n + 1}; } main O { let n N = R{n: 1}; let m M = n; print (m.next().next() to interface {}) to *R; let t interface {} = m; print t to R; return t to N to O to M; }", "&{n: 3}|{n: 1}", api.OK, "{n: 1}", 10},
	)
}
