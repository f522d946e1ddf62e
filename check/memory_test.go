package check_test

import (
	"reflect"
	"slices"
	"testing"

	"coil/api"
	"coil/check"
)

// said is all that there is to say of a checked program.
func said(c *check.Checked) []any {
	up, down := c.Casts()
	return []any{c.Types(), up, down, c.Result(), c.Size(), c.Classes().Text(), c.Classes().Graph().Len(), c.Classes().Graph().Roots()}
}

// TestHandedIn: R2, a program that is handed in is not changed, its spare room included, and not kept.
func TestHandedIn(t *testing.T) {
	for _, src := range []string{
		unmarked(whole, 0), function("let v C = C{b: pb, i: fn2(b, g(1, i).x), f: c.f}; if v.m() < 2 { print t to {a int; b fn(I, J) T;}; } else { while o { b.n(c); } }"),
		"type A = A; main int { return 1; }", "func f(a int, b int) int { return f(1, x); } main int { return 1; }", "func f(a {b int; c Z;}, b int) int { return 1; } main int { return 1; }", function("print b.n(a, b);"),
		set + "main int { return C{b: 1, i: 2, f: 3}; }", set + "main int { print nil {embed a A; embed b fn() int;}; return 1; }", "main int { if true { let a = 1; } else { print 1; } }",
	} {
		plain := parsed(t, src)
		before, err := check.Program(plain)
		for room := range 3 {
			c := copier{room: room}
			p := c.program(plain)
			after, other := check.Program(p)
			if !reflect.DeepEqual(other, err) || (after == nil) != (before == nil) {
				t.Fatal(src, other, err)
			}
			if !c.unchanged() {
				t.Errorf("%s: changed, with room for %d", src, room)
			}
			c.spoil()
			if after != nil && !(reflect.DeepEqual(said(after), said(before)) && reflect.DeepEqual(after.Codes(), before.Codes())) {
				t.Errorf("%s: kept", src)
			}
		}
	}
}

// TestNilOrEmpty: R4, lists that are nil and those that are empty mean the same.
func TestNilOrEmpty(t *testing.T) {
	p := parsed(t, unmarked(whole, 0))
	want, err := check.Program(p)
	if err != nil {
		t.Fatal(err)
	}
	for _, x := range allExprs(&p) {
		if x.Kind != api.XNil && x.Kind != api.XTo {
			x.T = []api.Type{}
		}
		if len(x.Parts) == 0 {
			x.Parts = []api.Expr{}
		}
		if len(x.Names) == 0 {
			x.Names = []string{}
		}
	}
	for _, s := range allStmts(&p) {
		for _, b := range []*[]api.Stmt{&s.Body, &s.Else} {
			if len(*b) == 0 {
				*b = []api.Stmt{}
			}
		}
		if len(s.T) == 0 {
			s.T = []api.Type{}
		}
	}
	for _, c := range codesOf(&p) {
		if len(c.Params) == 0 {
			c.Params = []api.Param{}
		}
	}
	got, err := check.Program(p)
	if err != nil || !reflect.DeepEqual(said(got), said(want)) {
		t.Error(err)
	}
	got, err = check.Program(api.Program{Defs: []api.Def{}, Methods: []api.Code{}, Funcs: []api.Code{}, Main: api.Code{Result: api.Type{Kind: api.TInt}, Body: []api.Stmt{{Kind: api.SReturn, X: []api.Expr{{Kind: api.XInt}}}}}})
	if err != nil || got.Size() != 2 {
		t.Error(err)
	}
}

// TestAnswers: R2, what is written into an answered list, or into its spare room, changes nothing of later answers, nor of
// others; and an answered list stays as it is, whatever is asked later.
func TestAnswers(t *testing.T) {
	c := accepted(t, unmarked(whole, 0))
	first, before := c.Types(), said(c)
	kept := slices.Clone(first)
	second := c.Types()
	second = second[:cap(second)]
	for i := range second {
		second[i] = check.Typed{Place: api.Place{At: -1}, Kind: -1, Class: -1}
	}
	_ = append(c.Types(), check.Typed{Kind: 99})
	if !slices.Equal(first, kept) || !reflect.DeepEqual(said(c), before) {
		t.Error("an answer has changed")
	}
	if _, err := c.Classes().Graph().Add(api.Type{Kind: api.TPtr, Parts: []api.Type{{Kind: api.TBool}}}); err != nil {
		t.Error(err)
	}
	if _, _, err := c.Classes().With(api.Type{Kind: api.TPtr, Parts: []api.Type{{Kind: api.TBool}}}); err != nil {
		t.Error(err)
	}
	other := accepted(t, function("print 1;"))
	if !slices.Equal(first, kept) || !reflect.DeepEqual(said(c), before) || other.Size() == c.Size() {
		t.Error("an answer has changed")
	}
	r := refusal(t, parsed(t, "main int { return x; }"))
	refusal(t, parsed(t, "main int { let a = y; }"))
	if r == nil || r.Where() != 18 || r.Name != "x" {
		t.Error(r)
	}
}
