package interp_test

import (
	"slices"
	"strconv"
	"strings"
	"testing"
	"time"

	"coil/api"
	"coil/check"
	"coil/interp"
)

// soon answers what it comes to, and fails, unless it ends within a time that is far more than it needs.
func soon(t *testing.T, do func() api.Outcome) api.Outcome {
	t.Helper()
	done := make(chan api.Outcome, 1)
	go func() { done <- do() }()
	select {
	case o := <-done:
		return o
	case <-time.After(time.Minute):
		t.Fatal("it does not end")
		return api.Outcome{}
	}
}

func number(n int) api.Expr { return api.Expr{Kind: api.XInt, N: n} }

func variable(name string) api.Expr { return api.Expr{Kind: api.XVar, S: name} }

func stmt(kind int, x api.Expr) api.Stmt { return api.Stmt{Kind: kind, X: []api.Expr{x}} }

// replaced is a program whose function f returns another expression, made of the one that it returned.
func replaced(t *testing.T, src string, made func(api.Expr) api.Expr) *check.Checked {
	t.Helper()
	p := parsed(t, src)
	last := &p.Funcs[0].Body[len(p.Funcs[0].Body)-1].X[0]
	*last = made(*last)
	return accepted(t, p)
}

// TestDeepFirst: R6, first parts that are nested as deep as they may be; and very deep in each of as many open calls as there
// may be.
func TestDeepFirst(t *testing.T) {
	const deep, calls = 1<<16 - 8, 1 << 14
	add := func(x api.Expr) api.Expr {
		for range calls {
			x = api.Expr{Kind: api.XAdd, Parts: []api.Expr{x, number(1)}}
		}
		return x
	}
	c := replaced(t, "func f(n int) int { if n < 1 { return 0; } return f(n - 1); } main int { return f(499); }", add)
	if o := soon(t, func() api.Outcome { return interp.Run(c, api.MaxFuel) }); o.Why != api.OK || o.Value != strconv.Itoa(calls*499) || o.Steps != 1501 {
		t.Error(o)
	}
	c = replaced(t, "func f(n int) int { return f(n); } main int { return f(499); }", add)
	if o := soon(t, func() api.Outcome { return interp.Run(c, api.MaxFuel) }); o.Why != api.ErrCalls || o.Steps != 1002 {
		t.Error(o)
	}
	c = replaced(t, set+"func f(l L) T { return l; } main T { return f(L{n: 1, next: nil *L}); }", func(x api.Expr) api.Expr {
		for i := range deep {
			x = api.Expr{Kind: api.XTo, T: []api.Type{{Kind: api.TName, Name: []string{"T", "L"}[i%2]}}, Parts: []api.Expr{x}}
		}
		return x
	})
	if o := soon(t, func() api.Outcome { return interp.Run(c, api.MaxFuel) }); o.Why != api.OK || o.Value != "{n: 1, next: nil}" || o.Steps != 3 {
		t.Error(o)
	}
	c = replaced(t, "type A = {n int;}; method A.m(a A) A { return A{n: self.n + a.n}; } func f(a A) A { return a; } main A { return f(A{n: 1}); }", func(x api.Expr) api.Expr {
		for range 40000 {
			x = api.Expr{Kind: api.XCall, S: "m", Parts: []api.Expr{x, variable("a")}}
		}
		return x
	})
	if o := soon(t, func() api.Outcome { return interp.Run(c, api.MaxFuel) }); o.Why != api.OK || o.Value != "{n: 40001}" || o.Steps != 80003 {
		t.Error(o)
	}
}

// TestDeepest: R6, statements and parts that are nested as deep as they may be, in each of as many open calls as there may be.
func TestDeepest(t *testing.T) {
	const deep, sums = api.MaxNest - 3, api.MaxNest/2 - 2
	src := "func f(n int) int { if n < 1 { return 0; } " + strings.Repeat("if true { ", deep) + "return " + strings.Repeat("1 + (", sums) + "f(n - 1)" + strings.Repeat(")", sums) + ";" + strings.Repeat(" }", deep) + " return 0; } main int { return f(499); }"
	if o := interp.Run(checked(t, src), api.MaxFuel); o.Why != api.OK || o.Value != strconv.Itoa(499*sums) || o.Steps != 1+3+499*(3+deep) {
		t.Error(o)
	}
	src = "func f(n int) int { let a = " + strings.Repeat("- ", deep/2) + "f(" + strings.Repeat("- ", deep/2) + "n); return a; } main int { return f(1); }"
	if o := interp.Run(checked(t, src), api.MaxFuel); o.Why != api.ErrCalls || o.Steps != 1002 {
		t.Error(o)
	}
}

// TestDoubled: values whose parts double at each level: what is done with them takes no longer than with others.
func TestDoubled(t *testing.T) {
	const loop = "type P = {a Q; b Q;}; type Q = interface {}; func f(q Q) Q { return q; } "
	const grow = "let q Q = 1; let i = 0; while i < 20000 { q = P{a: q, b: q}; i = i + 1; } "
	for _, x := range []struct {
		src   string
		why   api.Errno
		out   []string
		value string
		steps int
	}{
		{"main int { " + grow + "print 5; print q; return 1; }", api.ErrBig, []string{"5"}, "", 60005},
		{"main Q { " + grow + "return q; }", api.ErrBig, nil, "", 60004},
		{"main Q { " + grow + "return new P{a: q, b: 1}; }", api.ErrBig, nil, "", 60004},
		{"main int { " + grow + "while 0 < i - 13000 { q = f((q to P).b); i = i - 1; } return i; }", api.OK, nil, "13000", 60003 + 7001 + 7000*4 + 1},
		{"main int { " + grow + "let p = new P{a: q, b: f(q)}; q = (p.a to P).b; q = p; q = q to *P; return 1; }", api.OK, nil, "1", 60003 + 4 + 2 + 1},
	} {
		c := checked(t, loop+x.src)
		o := soon(t, func() api.Outcome { return interp.Run(c, api.MaxFuel) })
		if o.Why != x.why || !slices.Equal(o.Out, x.out) || o.Value != x.value || o.Steps != x.steps {
			t.Errorf("%s: %v %v %v %d", x.src, o.Why, o.Out, o.Value, o.Steps)
		}
	}
}

// TestNested: values that are nested far deeper than anything that is handed in may be are printed as far as there may be
// text.
func TestNested(t *testing.T) {
	const deep = api.MaxNest - 4
	for _, word := range []string{"", "new "} {
		src := "type Q = interface {}; type P = {a Q;}; main Q { let q Q = 1; let i = 0; while i < 33000 { q = " + strings.Repeat(word+"P{a: ", deep) + "q" + strings.Repeat("}", deep) + "; i = i + 1; } return q; }"
		c := checked(t, src)
		if o := soon(t, func() api.Outcome { return interp.Run(c, api.MaxFuel) }); o.Why != api.ErrBig || o.Steps != 99004 || o.Value != "" {
			t.Error(o.Why, o.Steps, len(o.Value))
		}
	}
}

// TestList: a long list is walked, though each step's value is as great as all behind it.
func TestList(t *testing.T) {
	c := checked(t, set+"main int { let l = nil *L; let i = 0; while i < 15000 { l = new L{n: i, next: l}; i = i + 1; } let s = 0; while 0 < i { s = s + l.n; l = l.next; i = i - 1; } return s; }")
	if o := soon(t, func() api.Outcome { return interp.Run(c, api.MaxFuel) }); o.Why != api.ErrFuel || o.Steps != api.MaxFuel {
		t.Error(o)
	}
	c = checked(t, set+"main int { let l = nil *L; let i = 0; while i < 14000 { l = new L{n: i, next: l}; i = i + 1; } let s = 0; while 0 < i { s = s + l.n; l = l.next; i = i - 1; } return s; }")
	if o := soon(t, func() api.Outcome { return interp.Run(c, api.MaxFuel) }); o.Why != api.OK || o.Value != strconv.Itoa(14000*13999/2) {
		t.Error(o)
	}
}

// TestArguments: P11.2, values whose parts double at each level, and such as are nested as deep as they may be, are asked
// whether they are sound list by list.
func TestArguments(t *testing.T) {
	w := calledWorld(t)
	for _, levels := range []int{3, 64, 30000} {
		good, bad, wrong := w.num(1), w.rec("D", w.num(1)), w.truth(2)
		for range levels {
			good, bad, wrong = w.rec("O", good, good), w.rec("O", bad, bad), w.rec("O", wrong, wrong)
		}
		why := api.ErrBig
		if levels == 3 {
			why = api.OK
		}
		if o := soon(t, func() api.Outcome { return interp.Call(w.Checked, 9, "any", good) }); o.Why != why || o.Steps != 2 {
			t.Error(levels, o.Why, o.Steps)
		}
		alone(t, soon(t, func() api.Outcome { return interp.Call(w.Checked, 9, "any", bad) }), api.ErrArg)
		alone(t, soon(t, func() api.Outcome { return interp.Call(w.Checked, 9, "any", wrong) }), api.ErrArg)
	}
	list, last := w.ptr("*L"), w.ptr("*A")
	for range 30000 {
		list, last = w.ptr("*L", w.rec("L", w.num(0), list)), w.ptr("*L", w.rec("L", w.num(1), last))
	}
	if o := soon(t, func() api.Outcome { return interp.Call(w.Checked, 99, "list", w.rec("L", w.num(1), list)) }); o.Why != api.OK || o.Value != "1" {
		t.Error(o.Why)
	}
	alone(t, soon(t, func() api.Outcome { return interp.Call(w.Checked, 99, "list", w.rec("L", w.num(1), last)) }), api.ErrArg)
}

// TestWide: records and functions with very many parts.
func TestWide(t *testing.T) {
	const n = 20000
	p := parsed(t, "type N = int; type A = {}; func f() int { return 1; } main int { return 1; }")
	d, f := &p.Defs[1].T, &p.Funcs[0]
	record, call := api.Expr{Kind: api.XRec, S: "A"}, api.Expr{Kind: api.XApply, Parts: []api.Expr{variable("f")}}
	for i := range n {
		name, typ := "a"+strconv.Itoa(i), api.Type{Kind: api.TName, Name: "N"}
		d.Names, d.Embeds, d.Parts = append(d.Names, name), append(d.Embeds, false), append(d.Parts, typ)
		f.Params = append(f.Params, api.Param{Name: name, T: typ})
		record.Names, record.Parts = append(record.Names, name), append(record.Parts, number(i))
		call.Parts = append(call.Parts, number(i))
	}
	f.Body[0].X[0] = variable("a1234")
	last := api.Expr{Kind: api.XField, S: "a4321", Parts: []api.Expr{variable("r")}}
	p.Main.Body = []api.Stmt{stmt(api.SPrint, call), {Kind: api.SLet, Name: "r", X: []api.Expr{record}}, stmt(api.SPrint, last), stmt(api.SReturn, last)}
	c := accepted(t, p)
	if o := soon(t, func() api.Outcome { return interp.Run(c, 9) }); o.Why != api.OK || !slices.Equal(o.Out, []string{"1234", "4321"}) || o.Value != "4321" || o.Steps != 6 {
		t.Error(o)
	}
	w := newWorld(t, c)
	args := slices.Repeat([]api.Value{w.num(7)}, n)
	if o := soon(t, func() api.Outcome { return interp.Call(c, 9, "f", args...) }); o.Why != api.OK || o.Value != "7" {
		t.Error(o)
	}
	alone(t, interp.Call(c, 9, "f", args[1:]...), api.ErrArg)
	alone(t, interp.Call(c, 9, "f", append(args, args[0])...), api.ErrArg)
}
