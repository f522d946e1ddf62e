package check_test

import (
	"testing"

	"coil/api"
	"coil/check"
)

// run4 is the chapter's fourth run, with more statements ahead of its return.
func run4(stmts string) string {
	return "type I = interface {m() int;}; type A = {x int;}; method A.m() int { return self.x; } main int { let i I = A{x: 7}; " + stmts + "return i.m(); }"
}

// TestRuns: the chapter's runs.
func TestRuns(t *testing.T) {
	c := accepted(t, "main int { return 1; }")
	number := id(t, c, "int")
	if l := c.Types(); len(l) != 1 || l[0] != (check.Typed{Place: api.Place{At: 18}, Kind: api.XInt, Class: number}) {
		t.Error(l)
	}
	if up, down := c.Casts(); up != 0 || down != 0 || c.Size() != 2 || c.Result() != number {
		t.Error(up, down, c.Size(), c.Result())
	}
	refuses(t, api.ErrType, "", "main int { return @true; }", "main int { return @nil int; }", "main int { return (@1)(2); }")
	refuses(t, api.ErrReturn, "", "main int { print 1; }")
	refuses(t, api.ErrNoName, "x", "main int { return @x; }")
	refuses(t, api.ErrTwice, "a", "main int { let a = 1; @let a = 2; return a; }")
	accepts(t, run4(""))
	if up, down := accepted(t, run4("let a = i to A; ")).Casts(); up != 0 || down != 1 {
		t.Error(up, down)
	}
	refuses(t, api.ErrCast, "", run4("let a = i @to int; "))
	refuses(t, api.ErrSelf, "", "main int { return @self; }")
}

// TestExamples: the chapter's examples.
func TestExamples(t *testing.T) {
	refuses(t, api.ErrNoName, "a", "main int { if true { let a = 1; print a; } return @a; }")
	accepts(t, "func f() int { return 1; } main text { let f = \"a\"; return f; }")
	refuses(t, api.ErrType, "", "func f() int { return 1; } main text { let f = \"a\"; return (@f)() to text; }", "main int { if @1 { } return 1; }")
}
