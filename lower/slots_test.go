package lower_test

import (
	"strings"
	"testing"
)

// TestParams: P13.3, parameters are variables; self is none.
func TestParams(t *testing.T) {
	c := made(t, "type A = {x int;}; method A.m() int { return self.x; } method A.n(a int, b A, c *A) int { return a; } func f() int { return 1; } func g(a int) int { return a; } func h(a int, b int, c int, d int, e int) int { return 1; } main int { return g(1); }")
	for name, n := range map[string]int{"A.m": 0, "A.n": 3, ".f": 0, ".g": 1, ".h": 5, ".": 0} {
		slots(t, c, name, n)
	}
}

// TestLets: P13.3, each let is counted, once, wherever it stands, and nothing else is.
func TestLets(t *testing.T) {
	for stmts, n := range map[string]int{
		"":                           0,
		"let a = 1;":                 1,
		"let a = 1; let b = a;":      2,
		"let a = 1; a = 2; a = a;":   1,
		"let a int = 1; print a; a;": 1,
		"if true { let a = 1; }":     1,
		"if true { } else { let a = 1; let b = 2; }":                                                       2,
		"if true { let a = 1; } else { let a = 1; }":                                                       2, // two of one name
		"if true { let a = 1; } let a = 2;":                                                                2,
		"while true { let a = 1; while false { let b = a; let c = b; } }":                                  3,
		"let i = 0; while i < 9 { let a = i; i = i + 1; }":                                                 2, // once, however often it is run
		"while false { let a = 1; } while false { let a = 2; } while false { let a = \"\"; }":              3,
		"let a = 1; if true { let b = 2; if true { let c = 3; } else { let d = 4; } } else { let b = 5; }": 5,
		"return 1; let a = 1;":      1, // never run
		"let main2 = 1; let f = f;": 2, // a function that is hidden is no variable
		"if true { if true { if true { if true { let a = 1; } let a = 2; } let a = 3; } let a = 4; } let a = 5;": 5,
	} {
		const rest = "type A = {}; func f(p int, q A) int { return p; } "
		body := "{ " + stmts + " return 0; } "
		c := made(t, rest+"method A.m(x int) int "+body+"func g(x int, y A) int "+body+"main int "+body)
		slots(t, c, "A.m", n+1)
		slots(t, c, ".g", n+2)
		slots(t, c, ".", n)
		slots(t, c, ".f", 2)
	}
}

// TestNone: P13.3, names that are none's.
func TestNone(t *testing.T) {
	c := made(t, set+"func f(a int) int { let v = a; return v; } func m() int { return 1; } main int { let v = 1; let w = v; return w; }")
	for name, n := range map[string]int{".": 2, ".f": 2, ".m": 0, "A.m": 0, "A.n": 1, "A.k": 0, "K.m": 0} {
		slots(t, c, name, n)
	}
	for _, name := range []string{
		"A.", "A.f", "A.x", "A.z", "A.M", "a.m", "B.m", "B.a", "B.", "C.m", "I.m", "J.n", "K.n", "K.k", "D.m", "T.", "Z.m", "Z.", // promoted methods have no code of their own
		".g", ".k", ".n", ".v", ".a", ".main", ".A", ".I", ".F", ". f", ".f ", " .f", "f.f", "f.", ".\x00", "A .m", "A. m", ".A.m", "main.", ".print", ".int",
	} {
		slots(t, c, name, -1)
	}
	for _, long := range []string{strings.Repeat("f", 99), strings.Repeat("\xff", 1<<16)} {
		slots(t, c, "."+long, -1)
		slots(t, c, long+".m", -1)
		slots(t, c, "A."+long, -1)
	}
}

// TestSameNames: P13.3, methods of several owners, and a function, that have one name.
func TestSameNames(t *testing.T) {
	c := made(t, "type A = {}; type B = {}; type C = A; method B.m(a int, b int) int { let c = a; return c; } method A.m() int { let a = 1; return a; } func m(a int) int { return a; } main int { return A{}.m(); }")
	for name, n := range map[string]int{"A.m": 1, "B.m": 3, ".m": 1, ".": 0, "C.m": -1, "A.": -1, "B.": -1} {
		slots(t, c, name, n)
	}
}

// TestNoVariable: P13.3, a program without any variable.
func TestNoVariable(t *testing.T) {
	c := made(t, "type A = {}; method A.m() int { if true { return 1; } return 2; } func f() A { return A{}; } main int { while false { print f(); } return f().m(); }")
	for _, name := range []string{"A.m", ".f", "."} {
		slots(t, c, name, 0)
	}
	bounded(t, "no variable", c, 3)
}
