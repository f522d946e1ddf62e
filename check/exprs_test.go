package check_test

import (
	"slices"
	"strings"
	"testing"

	"coil/api"
)

// TestLiterals: P9.1, the rows of XInt, XText, XBool.
func TestLiterals(t *testing.T) {
	classes(t,
		[2]string{"print @1;", "int"}, [2]string{"print @0;", "int"}, [2]string{`print @"a";`, "text"}, [2]string{`print @"";`, "text"},
		[2]string{"print @true;", "bool"}, [2]string{"print @false;", "bool"},
	)
}

// TestNames: P9.1, the row of XVar, and what hides what.
func TestNames(t *testing.T) {
	classes(t,
		[2]string{"print @n;", "int"}, [2]string{"print @i;", "I"}, [2]string{"print @pl;", "*L"}, [2]string{"print @ppa;", "**A"}, // parameters
		[2]string{"let v = b; print @v;", "B"}, [2]string{"let v I = b; print @v;", "I"},
		[2]string{"print @g;", "fn(int, I) A"}, [2]string{"let h = g; print @h;", "fn(int, I) A"}, [2]string{"let h fn(int, J) T = @g;", "fn(int, I) A"},
		[2]string{"let g = @g;", "fn(int, I) A"}, [2]string{"let g = g; print @g;", "fn(int, I) A"},
		[2]string{"let g = true; print @g;", "bool"}, [2]string{"if o { let g = 1; } print @g;", "fn(int, I) A"},
	)
	wrong(t, api.ErrNoName, "v", "print @v;", "let v = @v;", "if o { let v = 1; } print @v;", "print @v + w;", "print (@v)(w);")
	wrong(t, api.ErrNoName, "m", "print @m;") // a method's name is none
	wrong(t, api.ErrNoName, "x", "print @x;") // nor a field's
	wrong(t, api.ErrType, "", "let g = 1; print (@g)(1, i);")
	accepts(t, // each function knows all others and itself
		"func f(n int) int { return g(n) + f(n); } func g(n int) int { return f(n) * g(n); } main int { return f(g(1)); }",
		"func f(f int) int { return f; } main int { return f(1); }",
		"type A = {}; method A.f() int { return f(1); } func f(n int) int { return A{}.f(); } main int { return f(1); }",
	)
	refuses(t, api.ErrType, "", "func f(f int) int { return (@f)(1); } main int { return f(1); }")
	refuses(t, api.ErrNoName, "m", "type A = {}; method A.m() int { return (@m)(); } main int { return 1; }")
	refuses(t, api.ErrNoName, "n", "func f(n int) int { return n; } main int { return @n; }") // another one's parameter
	refuses(t, api.ErrNoName, "v", "func f() int { let v = 1; return v; } main int { return @v; }")
}

// TestSelf: P9.1, the row of XSelf.
func TestSelf(t *testing.T) {
	c := accepted(t, set+"method L.o() int { return self.next.o() + self.n; } main int { return 1; }")
	var selves []int
	for _, x := range c.Types() {
		if x.Kind == api.XSelf {
			selves = append(selves, x.Class)
		}
	}
	if a, l := id(t, c, "A"), id(t, c, "L"); !slices.Equal(selves, []int{a, l, l}) {
		t.Error(selves, a, l)
	}
	refuses(t, api.ErrSelf, "", "main int { return @self; }", "func f() int { return (@self).x; } main int { return f(); }",
		"type A = {}; method A.m() int { print self; return 1; } func f() int { print @self; return 1; } main int { return f(); }",
		"type A = {}; method A.m() int { print self; return 1; } main int { print @self; return 1; }")
	refuses(t, api.ErrType, "", "type A = {}; method A.m() *A { return @self; } main int { return 1; }")
	accepts(t, "type A = {}; method A.m() A { return self; } main int { return 1; }", "type A = {a *A;}; method A.m(a A) interface {} { a = self; return self.m(self); } main int { return 1; }")
	refuses(t, api.ErrNoName, "x", "type A = {x int;}; method A.m() int { return @x; } main int { return 1; }")
}

// TestNil: P9.1, the row of XNil.
func TestNil(t *testing.T) {
	classes(t, [2]string{"print @nil *A;", "*A"}, [2]string{"print @nil **int;", "**int"}, [2]string{"print @nil P;", "*L"}, [2]string{"print @nil *I;", "*I"}, [2]string{"print @nil *fn(P) int;", "*fn(*L) int"})
	wrong(t, api.ErrType, "", "print @nil int;", "print @nil A;", "print @nil I;", "print @nil fn() *A;", "print @nil N;", "print @nil {p *A;};", "print 1 + @nil text;", "print @nil T;")
}

// TestRecords: P9.1, the row of XRec and XNew.
func TestRecords(t *testing.T) {
	classes(t,
		[2]string{"print @A{x: 1};", "A"}, [2]string{"print @new A{x: 1};", "*A"}, [2]string{"print @Q{x: 1};", "A"}, [2]string{"print @new Q{x: 1};", "*A"},
		[2]string{"print @E{};", "E"}, [2]string{"print @new E{};", "*E"}, [2]string{"print @B{y: s, a: a};", "B"}, [2]string{"print @B{a: A{x: 1}, y: s};", "B"},
		[2]string{"print @C{f: fn0 to T to fn(int) bool, i: b, b: pb};", "C"}, [2]string{"print @L{n: 1, next: new L{n: 2, next: nil P}};", "L"},
		[2]string{"print C{f: nil *fn(int) bool to T to fn(int) bool, i: @a, b: pb};", "A"}, // its own, not the field's
	)
	for _, word := range []string{"", "new "} {
		row := func(why api.Errno, name string, bodies ...string) {
			t.Helper()
			for _, b := range bodies {
				wrong(t, why, name, strings.ReplaceAll(b, "NEW ", word))
			}
		}
		row(api.ErrNoName, "Z", "print @NEW Z{};", "print @NEW Z{x: y};", "print A{x: @NEW Z{}};")
		row(api.ErrType, "", "print @NEW N{};", "print @NEW I{};", "print @NEW P{n: 1, next: pl};", "print @NEW N{x: y};", "print @NEW T{};")
		row(api.ErrNoName, "q", "print NEW A{z: @q};", "print NEW A{z: 1, x: @q, y: r};", "print NEW A{x: true, y: @q};") // parts, ahead of what is asked of them
		row(api.ErrField, "z", "print @NEW A{z: 1};", "print @NEW A{x: 1, z: 1};", "print @NEW A{z: 1, y: 1};", "print @NEW A{x: true, z: 1};", "print @NEW E{z: 1};", "print @NEW B{z: 1};")
		row(api.ErrField, "x", "print @NEW B{x: 1, y: s};", "print @NEW B{a: a, y: s, x: 1};") // a field that is promoted is not its own
		row(api.ErrField, "m", "print @NEW A{x: 1, m: 1};")
		row(api.ErrCount, "", "print @NEW A{};", "print @NEW B{y: 1};", "print @NEW B{a: true};", "print @NEW C{b: 1, f: 2};")
		row(api.ErrType, "", "print NEW A{x: @true};", "print NEW B{y: @n, a: n};", "print NEW B{a: @n, y: n};", "print NEW B{a: @pa, y: s};", "print NEW C{b: @b, i: i, f: i};",
			"print NEW C{b: pb, i: i, f: @fn0};", "print NEW L{n: 1, next: @l};", "print NEW L{next: @nil *A, n: true};", "print NEW C{b: pb, i: @t, f: t};")
	}
}

// TestFields: P9.1, the row of XField.
func TestFields(t *testing.T) {
	classes(t,
		[2]string{"print a@.x;", "int"}, [2]string{"print pa@.x;", "int"}, [2]string{"print b@.x;", "int"}, [2]string{"print b@.a;", "A"}, [2]string{"print b@.y;", "text"}, [2]string{"print pb@.x;", "int"},
		[2]string{"print c@.x;", "int"}, [2]string{"print c@.b;", "*B"}, [2]string{"print c@.i;", "I"}, [2]string{"print c@.f;", "fn(int) bool"}, [2]string{"print pc@.y;", "text"},
		[2]string{"print d@.x;", "int"}, [2]string{"print d@.z;", "int"}, [2]string{"print d@.a;", "A"}, [2]string{"print d.c@.a;", "A"}, [2]string{"print l@.next;", "*L"}, [2]string{"print pl.next.next@.n;", "int"},
		[2]string{"print A{x: 1}@.x;", "int"}, [2]string{"print (t to B)@.y;", "text"},
	)
	wrong(t, api.ErrNoMember, "z", "print a@.z;", "print pa@.z;", "print c@.z;", "print n@.z;", "print s@.z;", "print i@.z;", "print t@.z;", "print fn0@.z;", "print g@.z;", "print e@.z;", "print pi@.z;")
	wrong(t, api.ErrNoMember, "x", "print ppa@.x;", "print i@.x;", "print l.next@.x;")
	wrong(t, api.ErrNoMember, "m", "print pi@.m;")
	wrong(t, api.ErrAmbiguous, "m", "print d@.m;")
	wrong(t, api.ErrField, "m", "print a@.m;", "print pa@.m;", "print b@.m;", "print i@.m;", "print j@.m;", "print c@.m;")
	wrong(t, api.ErrField, "n", "print b@.n;", "print c@.n;")
	wrong(t, api.ErrNoName, "v", "print (@v).z;", "print @v.z;")
	wrong(t, api.ErrNoMember, "y", "print b.y; print a@.y;", "print c.y + pb.y; print l@.y; print b.y;") // what was found on one class, another one may not have
	wrong(t, api.ErrField, "n", "print l.n; print b@.n;", "print b.n(i); print l.n; print j@.n;")
	refuses(t, api.ErrAmbiguous, "x", "type A = {x int;}; type B = {embed a A; embed b {x int;};}; func f(b B) int { return b@.x; } main int { return 1; }")
	refuses(t, api.ErrAmbiguous, "x", "type A = {x int;}; type B = {embed a A; embed b *A;}; main int { let b = nil *B; return b@.x; }")
	accepts(t, "type R = {embed r *R; embed a {x int;};}; func f(r R) int { return r.x + r.r.r.x + r.r.r.a.x; } main int { return 1; }")
	refuses(t, api.ErrNoMember, "y", "type R = {embed r *R; embed a {x int;};}; func f(r R) int { return r@.y; } main int { return 1; }")
}

// TestCalls: P9.1, the row of XCall.
func TestCalls(t *testing.T) {
	classes(t,
		[2]string{"print a@.m();", "int"}, [2]string{"print pa@.m();", "int"}, [2]string{"print b@.m();", "int"}, [2]string{"print i@.m();", "int"}, [2]string{"print c@.m();", "int"},
		[2]string{"print b@.n(a);", "J"}, [2]string{"print j@.n(i);", "J"}, [2]string{"print c@.n(j);", "J"}, [2]string{"print pc@.n(pc);", "J"}, [2]string{"print j.n(i)@.n(j);", "J"}, [2]string{"print A{x: 1}@.m();", "int"},
	)
	wrong(t, api.ErrNoMember, "z", "print a@.z();", "print n@.z(1);", "print i@.z(1, 2);", "print e@.z();")
	wrong(t, api.ErrNoMember, "m", "print ppa@.m();", "print pi@.m();", "print l@.m();", "print t@.m();")
	wrong(t, api.ErrAmbiguous, "m", "print d@.m();", "print d@.m(1);")
	wrong(t, api.ErrField, "x", "print a@.x();", "print b@.x(1);")
	wrong(t, api.ErrField, "f", "print c@.f(1);", "print c@.f();") // though it is a function
	wrong(t, api.ErrCount, "", "print a@.m(1);", "print b@.n();", "print b@.n(i, i);", "print b@.n(1, true);", "print i@.m(i);", "print j@.n();")
	wrong(t, api.ErrType, "", "print b.n(@1);", "print j.n(@t);", "print j.n(@d);", "print c.n(@ppa);")
	wrong(t, api.ErrNoName, "v", "print a.z(@v);", "print d.m(@v, w);", "print a.x(1, @v);", "print a.m(@v);", "print b.n(@v, 1);", "print (@v).z(w);") // the arguments, ahead of what is asked of them
	refuses(t, api.ErrType, "", "type A = {}; method A.m(a int, b bool, c text) int { return A{}.m(1, @2, 3); } main int { return 1; }")
	accepts(t, "type A = {}; method A.m(a int, b bool, c text) int { return A{}.m(1, true, \"\"); } main int { return 1; }")
}

// TestApplies: P9.1, the row of XApply.
func TestApplies(t *testing.T) {
	classes(t,
		[2]string{"print g@(1, i);", "A"}, [2]string{"print g@(n, pa);", "A"}, [2]string{"print fn0@();", "int"}, [2]string{"print fn2@(b, 1);", "A"}, [2]string{"print (c.f)@(1);", "bool"}, [2]string{"print (t to fn() fn() P)()@();", "*L"},
		[2]string{"print (t to fn() fn() P)@();", "fn() *L"},
	)
	wrong(t, api.ErrType, "", "print (@1)();", "print (@1)(2);", "print (@i)(1);", "print (@a)();", "print (a@.m())();", "print (@nil *fn() int)();", "print (@t)();")
	wrong(t, api.ErrCount, "", "print g@();", "print g@(1);", "print g@(1, i, i);", "print g@(true);", "print fn0@(1);", "print (c.f)@();")
	wrong(t, api.ErrType, "", "print g(@true, i);", "print g(@true, 1);", "print g(1, @1);", "print fn2(@i, true);", "print fn2(j, @o);", "print (c.f)(@s);")
	wrong(t, api.ErrNoName, "v", "print 1(@v);", "print g(@v);", "print g(true, @v);", "print (@v)(w);", "print fn0(1, 2, @v);")
}

// TestCasts: P9.1, the row of XTo, and P9.2's Casts.
func TestCasts(t *testing.T) {
	classes(t, [2]string{"print a @to I;", "I"}, [2]string{"print i @to A;", "A"}, [2]string{"print t @to N;", "int"}, [2]string{"print pl @to P;", "*L"}, [2]string{"print t @to {q *int;};", "{q *int;}"})
	wrong(t, api.ErrCast, "", "print 1 @to bool;", "print i @to int;", "print i @to L;", "print a @to B;", "print a @to *A;", "print pa @to A;", "print d @to I;", "print ppa @to I;", "print t to A @to B;",
		"print fn0 @to fn(int) int;", "print pi @to *J;", "print pi @to *A;", "print pa to *I @to *A;")
	wrong(t, api.ErrNoName, "v", "print @v to int;", "print (@v) to bool;")
	for body, want := range map[string][2]int{
		"print a to I;": {1, 0}, "print a to T;": {1, 0}, "print 1 to T;": {1, 0}, "print fn0 to T;": {1, 0}, "print j to I;": {1, 0}, "print pb to J;": {1, 0}, "print c to J;": {1, 0},
		"print i to A;": {0, 1}, "print i to *A;": {0, 1}, "print i to J;": {0, 1}, "print t to I;": {0, 1}, "print t to int;": {0, 1}, "print t to fn() int;": {0, 1}, "print j to *B;": {0, 1},
		"print i to I;": {1, 0}, "print 1 to int;": {1, 0}, "print a to Q;": {1, 0}, "print i to interface {m() int;};": {1, 0}, "print pl to *{next P; n N;};": {1, 0}, // both ways: up
		"print fn2 to fn(B, N) I;": {1, 0}, "print i to T to I to A to I;": {2, 2}, "if o { print i to A; } else { while o { print a to I; } }": {1, 1},
		"let v = i to A; v = i to A; print g(t to int, i to J); t to I;": {0, 5}, "": {0, 0},
	} {
		if up, down := accepted(t, function(body)).Casts(); up != want[0] || down != want[1] {
			t.Error(body, up, down)
		}
	}
	if up, down := accepted(t, set+"method L.o(i I) A { return i to A; } func f(a A) I { return a to I; } main int { return 1 to int; }").Casts(); up != 2 || down != 1 {
		t.Error(up, down)
	}
}

// operands are expressions of each kind of type.
func operands() map[string]string {
	return map[string]string{"int": "n", "text": "s", "bool": "o", "record": "a", "pointer": "pa", "interface": "i", "empty": "t", "function": "fn0"}
}

// TestOperations: P9.1, the rows from XNeg on: each of them of each two operands.
func TestOperations(t *testing.T) {
	for _, row := range []struct{ signs, kinds, result string }{
		{"* -", "int", "int"}, {"and or", "bool", "bool"}, {"+", "int text", "same"}, {"==", "int text bool", "bool"}, {"<", "int text", "bool"},
	} {
		for _, sign := range strings.Fields(row.signs) {
			for left, x := range operands() {
				for right, y := range operands() {
					result := row.result
					if result == "same" {
						result = left
					}
					switch {
					case !slices.Contains(strings.Fields(row.kinds), left):
						wrong(t, api.ErrType, "", "print @"+x+" "+sign+" "+y+";")
					case left != right:
						wrong(t, api.ErrType, "", "print "+x+" "+sign+" @"+y+";")
					default:
						classes(t, [2]string{"print " + x + " @" + sign + " " + y + ";", result})
					}
				}
			}
			wrong(t, api.ErrNoName, "v", "print a "+sign+" @v;", "print @v "+sign+" w;", "print n "+sign+" @v;")
		}
	}
	for sign, kind := range map[string]string{"-": "int", "not": "bool"} {
		for operand, x := range operands() {
			if operand == kind {
				classes(t, [2]string{"print @" + sign + " " + x + ";", kind})
			} else {
				wrong(t, api.ErrType, "", "print "+sign+" @"+x+";")
			}
		}
		wrong(t, api.ErrNoName, "v", "print "+sign+" @v;")
	}
	classes(t, [2]string{"print n + n * n @+ - n;", "int"}, [2]string{"print a.x @+ 1;", "int"}, [2]string{"print (t to N) @+ 1;", "int"}, [2]string{"print n + 1 @== n - 1;", "bool"})
	wrong(t, api.ErrType, "", "print n + (n @< n);", "print n + n + @s;", "print (n @== n) < o;", "print not @n == n;")
}
