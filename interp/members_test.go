package interp_test

import (
	"testing"

	"coil/api"
)

// TestFields: XField, fields of its own and those that are promoted, by records and pointers.
func TestFields(t *testing.T) {
	prints(t, 0,
		"A{x: 1}.x => 1", "new A{x: 1}.x => 1", `B{a: A{x: 1}, y: "y"}.x => 1`, `B{a: A{x: 1}, y: "y"}.y => y`, `B{a: A{x: 1}, y: "y"}.a => {x: 1}`, `new B{a: A{x: 1}, y: "y"}.x => 1`, `new B{a: A{x: 1}, y: "y"}.a.x => 1`,
		"C{a: new A{x: 2}}.x => 2", "C{a: new A{x: 2}}.a => &{x: 2}", "new C{a: new A{x: 2}}.x => 2", "E{c: new C{a: new A{x: 3}}}.x => 3", "new E{c: new C{a: new A{x: 3}}}.x => 3", "E{c: new C{a: new A{x: 3}}}.a => &{x: 3}", "E{c: nil *C}.c => nil", "C{a: nil *A}.a => nil", "E{c: new C{a: nil *A}}.a => nil",
		"D{i: A{x: 4}}.i => {x: 4}", "F{d: new D{i: new A{x: 5}}, z: 6}.i => &{x: 5}", "F{d: nil *D, z: 6}.z => 6", "F{d: new D{i: nil *A}, z: 6}.i => nil", "K{a: A{x: 7}, i: nil *A}.x => 7",
		"L{n: 1, next: new L{n: 2, next: new L{n: 3, next: nil *L}}}.next.next.n => 3", "L{n: 1, next: new L{n: 2, next: nil *L}}.next.next => nil",
	)
	for _, x := range []string{ // a nil at each place on the way
		"nil *A.x", "nil *B.x", "nil *B.y", "nil *B.a", "nil *C.a", "nil *C.x", "C{a: nil *A}.x", "new C{a: nil *A}.x", "nil *E.x", "nil *E.c", "E{c: nil *C}.x", "E{c: nil *C}.a", "E{c: new C{a: nil *A}}.x", "new E{c: new C{a: nil *A}}.x",
		"nil *D.i", "F{d: nil *D, z: 1}.i", "nil *F.i", "nil *F.z", "L{n: 1, next: nil *L}.next.n", "L{n: 1, next: new L{n: 2, next: nil *L}}.next.next.n", "L{n: 1, next: new L{n: 2, next: nil *L}}.next.next.next",
	} {
		mains(t, row{"say(1); print " + x + ";", "1", api.ErrNil, "", 5})
	}
	runs(t,
		row{"type R = {embed r *R; embed a {x int;};}; type A = {x int;}; main int { let r = new R{r: nil *R, a: A{x: 1}}; print r.x; r = new R{r: r, a: A{x: 2}}; print r.x; print r.r.x; print r.r.a.x; return r.r.r.x; }", "1|2|1|1", api.ErrNil, "", 7},
		row{"type T = interface {}; type A = {x int; y int;}; type B = {embed a A; x text;}; type C = {embed b *B; y bool;}; main T { let c = C{b: new B{a: A{x: 1, y: 2}, x: \"x\"}, y: true}; print c.x; print c.y; print c.b.y; print c.a.x; return c.a; }", "x|true|2|1", api.OK, "{x: 1, y: 2}", 6},
	)
}

// TestMethods: XCall, methods of its own and those that are promoted, by records, pointers and interfaces: what is called, on
// which record.
func TestMethods(t *testing.T) {
	prints(t, 2,
		"A{x: 1}.m() => 1", "new A{x: 1}.m() => 1", `B{a: A{x: 2}, y: ""}.m() => 2`, `new B{a: A{x: 2}, y: ""}.m() => 2`, "C{a: new A{x: 3}}.m() => 3", "new C{a: new A{x: 3}}.m() => 3", "E{c: new C{a: new A{x: 4}}}.m() => 4", "new E{c: new C{a: new A{x: 4}}}.m() => 4",
		"D{i: A{x: 5}}.m() => 5", "D{i: new A{x: 5}}.m() => 5", "new D{i: A{x: 5}}.m() => 5", "D{i: D{i: A{x: 6}}}.m() => 6", "D{i: new D{i: D{i: new A{x: 6}}}}.m() => 6", "D{i: C{a: new A{x: 7}}}.m() => 7", `D{i: new B{a: A{x: 8}, y: ""}}.m() => 8`, "D{i: E{c: new C{a: new A{x: 9}}}}.m() => 9",
		"F{d: new D{i: A{x: 1}}, z: 2}.m() => 1", "new F{d: new D{i: F{d: new D{i: A{x: 1}}, z: 2}}, z: 3}.m() => 1", "K{a: A{x: 1}, i: A{x: 2}}.i.m() => 2", "K{a: A{x: 1}, i: A{x: 2}}.a.m() => 1",
		"(A{x: 1} to I).m() => 1", "(new A{x: 1} to I to J).m() => 1", "(D{i: A{x: 1}} to I).m() => 1", "(new D{i: D{i: A{x: 1}}} to T to I).m() => 1", `(B{a: A{x: 1}, y: ""} to J to I).m() => 1`,
	)
	prints(t, 6, "K{a: A{x: 1}, i: A{x: 2}}.m() => 12", "new K{a: A{x: 1}, i: A{x: 2}}.m() => 12", "D{i: K{a: A{x: 3}, i: A{x: 4}}}.m() => 34", "(K{a: A{x: 3}, i: D{i: D{i: new A{x: 4}}}} to I).m() => 34") // its own one hides both
	prints(t, 4, "A{x: 1}.n(A{x: 2}) => {x: 3}", "(C{a: new A{x: 1}} to J).n(A{x: 2}) => {x: 3}", "A{x: 1}.n(D{i: new A{x: 5}}) => {x: 6}")
	prints(t, 8, "A{x: 1}.n(A{x: 2}).n(C{a: new A{x: 3}}) => {x: 6}", "A{x: 1}.n(A{x: 2}.n(A{x: 3})) => {x: 6}")
	runs(t,
		row{"type A = {x int;}; method A.me() A { return self; } method A.p(b text, a int) A { print b; return A{x: self.x + a}; } type B = {embed a *A;}; main A { let b = B{a: new A{x: 1}}; print b.me(); print b.p(\"b\", 2).me(); return b.a.p(\"c\", 3).p(\"d\", 4); }", "{x: 1}|b|{x: 3}|c|d", api.OK, "{x: 8}", 1 + 3 + 6 + 1 + 6},
		row{"type A = {n int;}; method A.m(n int) int { if n < 1 { return self.n; } return self.m(n - 1) + A{n: 100}.m(0); } main int { return A{n: 1}.m(3); }", "", api.OK, "301", 1 + 3*3 + 3 + 3*3},
		row{"type A = {}; type B = {}; method A.m() text { return \"A\"; } method B.m() text { return \"B\"; } type C = {embed a A; embed b B;}; method C.m() text { return self.b.m() + self.a.m(); } main text { let c = C{b: B{}, a: A{}}; return c.m() + c.a.m() + c.b.m(); }", "", api.OK, "BAAB", 2 + 6 + 4}, // of several of that name the owner's
	)
}

// TestNoMethod: XCall, a nil at each place on the way to the method: the arguments have their values, and nothing is called.
func TestNoMethod(t *testing.T) {
	for _, x := range []string{
		"nil *A", "nil *B", "nil *C", "C{a: nil *A}", "new C{a: nil *A}", "nil *E", "E{c: nil *C}", "E{c: new C{a: nil *A}}", "new E{c: new C{a: nil *A}}", "(nil *A to J)", "(nil *B to J)", "(nil *C to J)", "(C{a: nil *A} to J)", "(new C{a: nil *A} to J)", "(nil *E to J)", "(E{c: nil *C} to J)", "(E{c: new C{a: nil *A}} to T to J)",
	} {
		mains(t, row{"print " + x + ".n(of(1));", "1", api.ErrNil, "", 4}, row{"say(1); print " + x + ".m();", "1", api.ErrNil, "", 5})
	}
	for _, x := range []string{
		"nil *D", "D{i: nil *A}", "new D{i: nil *A}", "D{i: nil *D}", "D{i: D{i: nil *A}}", "D{i: new D{i: nil *D}}", "D{i: C{a: nil *A}}", "D{i: nil *C}", "D{i: E{c: nil *C}}", "nil *F", "F{d: nil *D, z: 1}", "F{d: new D{i: nil *A}, z: 1}", "F{d: new D{i: nil *F}, z: 1}", "F{d: new D{i: F{d: nil *D, z: 2}}, z: 1}",
		"nil *K", "(nil *D to I)", "(D{i: nil *D} to I)", "(F{d: nil *D, z: 1} to I)", "(nil *F to T to I)", "(nil *K to I)", "D{i: nil *K}",
	} {
		mains(t, row{"say(1); print " + x + ".m();", "1", api.ErrNil, "", 5})
	}
	mains(t, row{"print K{a: A{x: say(1)}, i: nil *A}.m();", "1", api.ErrNil, "", 1 + 3 + 2 + 2}) // within the method
}

// TestFunctions: XApply and XVar, functions as values.
func TestFunctions(t *testing.T) {
	prints(t, 2, "twice(3) => 6", "(twice)(4) => 8", "(twice to T to fn(int) int)(5) => 10", "(twice to fn(int) T)(5) => 10")
	runs(t,
		row{set + "func f(g fn(A) I, a A) I { return g(a); } func h(i I) A { return A{x: i.m() + 1}; } main I { return f(h, A{x: 1}); }", "", api.OK, "{x: 2}", 7},
		row{"type O = {f fn(int) int; g fn(fn(int) int) int;}; func one(n int) int { return n + 1; } func two(f fn(int) int) int { return f(f(1)); } main int { let o = O{g: two, f: one}; print o; print (o.f)(5); let f = o.f; f = one; print f(6); return (o.g)(o.f); }", "{f: fn one, g: fn two}|6|7", api.OK, "3", 1 + 1 + 3 + 2 + 3 + 1 + 6},
		row{"func add(n int) fn(int) int { if n == 0 { return zero; } return one; } func zero(n int) int { return n; } func one(n int) int { return n + 1; } main int { print add(0); print add(0)(5); print add(1)(5); return add(add(0)(0))(7); }", "fn zero|5|6", api.OK, "7", 4 + 5*3 + 4*2},
		row{"func f(n int) int { print n; return n; } func g() fn(int) int { print 0; return f; } main int { return g()(f(1)); }", "0|1|1", api.OK, "1", 1 + 3*3}, // the function's value first
	)
}
