package check_test

import (
	"testing"

	"coil/api"
)

// TestLets: P9.1, SLet: what is asked, in which order, and of which class the variable is.
func TestLets(t *testing.T) {
	classes(t,
		[2]string{"let v = a; print @v;", "A"}, [2]string{"let v I = a; print @v;", "I"}, [2]string{"let v T = 1; print @v;", "T"}, [2]string{"let v N = 1; print @v;", "int"}, [2]string{"let v P = nil *L; print @v;", "*L"},
		[2]string{"let v I = @a;", "A"}, [2]string{"let v fn(B) T = fn0 to T to fn(J) I; print @v;", "fn(B) T"},
	)
	wrong(t, api.ErrTwice, "v", "let v = 1; @let v = 2;", "let v = 1; @let v bool = 2;", "let v = 1; @let v text = \"\";", "let v = 1; if o { @let v = 2; }", "let v = 1; while o { if o { } else { @let v = 2; } }",
		"if o { let v = 1; @let v = 2; }", "let v = 1; if o { let w = 1; } else { @let v = 2; }", "let v = 1; let w = 2; @let v = 3; let w = 4;", "let v = 1; @let v = v;")
	wrong(t, api.ErrTwice, "n", "@let n = 1;", "@let n = n;", "if o { @let n = 1; }", "while o { @let n bool = 1; }") // a parameter
	wrong(t, api.ErrType, "", "let v bool = @1;", "let v A = @i;", "let v *I = @a;", "let v B = @a;", "let v J = @i; let n = 1;", "let v fn(I) A = @g;")
	wrong(t, api.ErrNoName, "w", "let n = @w;", "let n bool = @w;", "let v = @w + 1;")
	right(t, "let v = 1; let w = v; let u = w + v;", "let f = 1; let g = f;", "let m = 1; let x = m;", "let v T = t; let w T = 1; let u T = a; let z *I = pa;")
	refuses(t, api.ErrTwice, "a", "func f(a int) int { @let a = 1; return a; } main int { return 1; }", "type A = {}; method A.m(a int) int { @let a = 1; return a; } main int { return 1; }")
}

// TestScopes: P9.1, where a variable is known: behind its SLet, in the same block and in those within it.
func TestScopes(t *testing.T) {
	right(t, "let v = 1; if v == 1 { print v; if o { v = 2; } else { print v; } } else { while o { print v; } } print v;",
		"if o { let v = 1; print v; } else { let v = true; print not v; } let v = s; print v + s;", "while o { let v = 1; } while o { let v = true; } let v = s;",
		"if o { let v = 1; } if o { let v = true; } if o { } else { let v = s; }", "if o { if o { let v = 1; } let v = true; print not v; }",
		"while o { let v = 1; if v < 2 { let w = v; print w; } let w = o; print not w; }")
	wrong(t, api.ErrNoName, "v", "if o { let v = 1; } print @v;", "if o { let v = 1; } else { print @v; }", "if o { } else { let v = 1; } print @v;", "while o { let v = 1; } print @v;", "while o { if o { let v = 1; } print @v; }",
		"if @v { let v = true; }", "while @v { let v = true; }", "print @v; let v = 1;", "if o { print @v; } let v = 1;", "while o { print @v; let v = 1; }",
		"if o { let v = 1; } @v = 2;", "if o { let v = 1; } else { @v = 2; }", "@v = 1; let v = 2;", "let w = @v; let v = 1;")
	refuses(t, api.ErrNoName, "v", "type A = {}; method A.m(v int) int { return v; } method A.n() int { return @v; } main int { return 1; }")
}

// TestSets: P9.1, SSet.
func TestSets(t *testing.T) {
	right(t, "n = 1;", "let v = 1; v = v + n;", "i = a; i = pa; i = j; t = i; t = 1; pl = nil P;", "let v T = 1; v = a; v = true;", "let v = i; v = a;", "if o { while o { n = 2; } }", "fn2 = fn2; let h = g; h = g;", "pi = pa;")
	wrong(t, api.ErrNoName, "v", "@v = 1;", "@v = w;", "if o { @v = 1; }", "@v = true + 1;", "@v = 1; let v = 1;")
	wrong(t, api.ErrNoName, "g", "@g = g;", "@g = 1;") // a function is no variable
	wrong(t, api.ErrNoName, "w", "n = @w;", "n = true and @w;")
	wrong(t, api.ErrType, "", "n = @true;", "a = @i;", "a = @pa;", "let v = a; v = @i;", "let v I = a; v = @t;", "j = @i;", "let h = g; h = @fn2;", "pa = @pi;", "n = 1; s = @n;")
}

// TestConditions: P9.1, SIf and SWhile.
func TestConditions(t *testing.T) {
	right(t, "if o { }", "while not o { }", "if n < 1 { } else { }", "while true { return 1; }", "if a.x == 1 { if o { } } else { while o { } }")
	for _, x := range []string{"1", `"a"`, "a", "pa", "i", "t", "fn0", "g"} {
		wrong(t, api.ErrType, "", "if @"+x+" { }", "while @"+x+" { }", "if @"+x+" { print v; } else { print w; }", "while @"+x+" { print v; }", "if o { while @"+x+" { } }")
	}
	wrong(t, api.ErrNoName, "v", "if @v { print w; }", "while @v { print w; }", "if o { print @v; print w; } else { print u; }", "if o { } else { print @v; } print w;", "while o { print @v; } print w;")
}

// TestReturns: P9.1, SReturn, and that it stands last.
func TestReturns(t *testing.T) {
	accepts(t, set+"func h() I { return A{x: 1}; } main T { return h(); }", set+"method E.o() T { return self; } main P { return nil *L; }", "main int { return 1; return 2; }", "main int { while true { return 1; } return 2; }",
		"main int { if true { return 1; } else { return 2; } return 3; }")
	wrong(t, api.ErrType, "", "return @true;", "if o { return @s; }", "while o { return @a; }", "if o { } else { return @t; } return s;")
	wrong(t, api.ErrNoName, "v", "return @v;", "return 1 + @v;")
	refuses(t, api.ErrType, "", "main int { return @true; }", set+"func h() A { return @nil *A; } main int { return 1; }", set+"method L.o() J { return @A{x: 1}; } main int { return 1; }", set+"main A { let i I = A{x: 1}; return @i; }",
		"main int { return @true; print 1; }", "type A = {}; method A.m() int { return 1; } method A.n() bool { return @A{}; } main int { return true; }")
	for _, body := range []string{"", "print 1;", "let b = 1;", "1;", "if true { return 1; }", "if true { return 1; } else { return 2; }", "while true { return 1; }", "return 1; print 2;", "return 1; while true { }", "return 1; if true { return 1; }"} {
		refuses(t, api.ErrReturn, "", "type A = {}; @main int { "+body+" }")
		refuses(t, api.ErrReturn, "f", "type A = {}; func g() int { return 1; } @func f() int { "+body+" } func h() int { } main int { return true; }")
		refuses(t, api.ErrReturn, "m", "type A = {}; method A.a() int { return 1; } @method A.m(a int) int { "+body+" } method A.z() int { } func f() int { } main int { }")
	}
	refuses(t, api.ErrNoName, "v", "main int { print @v; }", "func f() int { print 1; print @v; } main int { return 1; }") // statements, ahead of what is missing behind them
}

// TestOthers: P9.1, SPrint and SDo take anything.
func TestOthers(t *testing.T) {
	for _, x := range []string{"1", `"a"`, "true", "a", "pa", "i", "t", "fn0", "g", "nil P", "a.m()", "new E{}", "t to I"} {
		right(t, "print "+x+";", "("+x+");")
	}
	wrong(t, api.ErrNoName, "v", "print @v;", "@v;", "(@v).m();")
}
