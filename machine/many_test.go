package machine_test

import (
	"slices"
	"strconv"
	"strings"
	"testing"
	"time"

	"coil/api"
	"coil/lower"
	"coil/machine"
)

// soon answers what a run comes to, and fails, unless it ends within a time that is far more than it needs.
func soon(t *testing.T, c *lower.Code, tabs int) (api.Outcome, machine.Counts) {
	t.Helper()
	var o api.Outcome
	var n machine.Counts
	done := make(chan struct{})
	go func() {
		o, n = machine.Run(c, api.MaxFuel, tabs)
		close(done)
	}()
	select {
	case <-done:
	case <-time.After(time.Minute):
		t.Fatal("it does not end")
	}
	return o, n
}

func number(n int) api.Expr { return api.Expr{Kind: api.XInt, N: n} }

func variable(name string) api.Expr { return api.Expr{Kind: api.XVar, S: name} }

func stmt(kind int, x api.Expr) api.Stmt { return api.Stmt{Kind: kind, X: []api.Expr{x}} }

// replaced is a program whose function f returns another expression, made of the one that it returned.
func replaced(t *testing.T, src string, made func(api.Expr) api.Expr) *lower.Code {
	t.Helper()
	p := parsed(t, src)
	last := &p.Funcs[0].Body[len(p.Funcs[0].Body)-1].X[0]
	*last = made(*last)
	return lowered(t, accepted(t, p))
}

// TestDeepFirst: R6, first parts that are nested as deep as they may be; and very deep in each of as many open calls as there
// may be.
func TestDeepFirst(t *testing.T) {
	const calls = 1 << 14
	add := func(x api.Expr) api.Expr {
		for range calls {
			x = api.Expr{Kind: api.XAdd, Parts: []api.Expr{x, number(1)}}
		}
		return x
	}
	c := replaced(t, "func f(n int) int { if n < 1 { return 0; } return f(n - 1); } main int { return f(499); }", add)
	if o, _ := soon(t, c, 1); !same(o, api.Outcome{Value: strconv.Itoa(calls * 499), Steps: 1501}) {
		t.Error(o)
	}
	c = replaced(t, set+"func f(j J) J { return j; } main J { return f(G{w: 1, j: A{x: 1}}); }", func(x api.Expr) api.Expr {
		for range 40000 {
			x = api.Expr{Kind: api.XCall, S: "n", Parts: []api.Expr{x, variable("j")}}
		}
		return x
	})
	// the first call goes by (G, J) and (A, J), all others by (A, J)
	if o, n := soon(t, c, 2); !same(o, api.Outcome{Value: "{x: 1}", Steps: 80003}) || n != (machine.Counts{Builds: 2, Lookups: 6, Calls: 40001, Pairs: 2}) {
		t.Error(o, n)
	}
	c = replaced(t, set+"func f(a A) T { return a; } main T { return f(A{x: 1}); }", func(x api.Expr) api.Expr {
		for i := range 1<<16 - 16 {
			x = api.Expr{Kind: api.XTo, T: []api.Type{{Kind: api.TName, Name: []string{"T", "A"}[i%2]}}, Parts: []api.Expr{x}}
		}
		return x
	})
	if o, _ := soon(t, c, 1); !same(o, api.Outcome{Value: "{x: 1}", Steps: 3}) {
		t.Error(o)
	}
}

// TestDeepSecond: R6, second parts that are nested as deep as a text may have them, in each of as many open calls as there may
// be.
func TestDeepSecond(t *testing.T) {
	const deep, sums = api.MaxNest - 3, api.MaxNest/2 - 2
	src := "func f(n int) int { if n < 1 { return 0; } " + strings.Repeat("if true { ", deep) + "return " + strings.Repeat("1 + (", sums) + "f(n - 1)" + strings.Repeat(")", sums) + ";" + strings.Repeat(" }", deep) + " return 0; } main int { return f(499); }"
	if o, _ := soon(t, made(t, src), 1); !same(o, api.Outcome{Value: strconv.Itoa(499 * sums), Steps: 1 + 3 + 499*(3+deep)}) {
		t.Error(o)
	}
}

// TestDoubled: values whose parts double at each level: what is done with them takes no longer than with others.
func TestDoubled(t *testing.T) {
	const types = "type P = {a Q; embed b Q;}; type Q = interface {m() int;}; type A = {}; method A.m() int { return 3; } func f(q Q) Q { return q; } "
	const grow = "let q Q = A{}; let i = 0; while i < 20000 { q = P{a: q, b: q}; i = i + 1; } "
	for _, x := range []struct {
		src string
		o   api.Outcome
	}{
		{"main int { " + grow + "print 5; print q; return 1; }", api.Outcome{Out: []string{"5"}, Why: api.ErrBig, Steps: 60005}},
		{"main Q { " + grow + "return q; }", api.Outcome{Why: api.ErrBig, Steps: 60004}},
		{"main int { " + grow + "while 0 < i - 13000 { q = f((q to P).b); i = i - 1; } return i; }", api.Outcome{Value: "13000", Steps: 60003 + 7001 + 7000*4 + 1}},
		{"main int { " + grow + "let p = new P{a: q, b: f(q)}; q = (p.a to P).b; q = p; q = q to *P; return q.m() + q.m(); }", api.Outcome{Value: "6", Steps: 60003 + 4 + 2 + 1 + 4}},
	} {
		if o, _ := soon(t, made(t, types+x.src), 1); !same(o, x.o) {
			t.Errorf("%s: %v %v %v %d", x.src, o.Why, o.Out, o.Value, o.Steps)
		}
	}
}

// TestDeepTables: P14.1, a call that goes through very many interfaces, one in the other.
func TestDeepTables(t *testing.T) {
	c := made(t, set+"main int { let i I = A{x: 7}; let n = 0; while n < 30000 { i = D{i: i}; n = n + 1; } return i.m() + i.m(); }")
	for _, tabs := range []int{1, 2} {
		want := machine.Counts{Builds: 6 - 2*tabs, Lookups: 6 - 2*tabs, Calls: 60002, Pairs: 2} // of one table that is kept: (D, I), (A, I), and both again
		if o, n := soon(t, c, tabs); !same(o, api.Outcome{Value: "14", Steps: 3 + 3*30000 + 1 + 4}) || n != want {
			t.Error(tabs, o, n)
		}
	}
}

// TestList: a long list is walked, though each value is as great as all behind it.
func TestList(t *testing.T) {
	c := made(t, "type L = {n int; next *L;}; main int { let l = nil *L; let i = 0; while i < 14000 { l = new L{n: i, next: l}; i = i + 1; } let s = 0; while 0 < i { s = s + l.n; l = l.next; i = i - 1; } return s; }")
	if o, _ := soon(t, c, 1); o.Why != api.OK || o.Value != strconv.Itoa(14000*13999/2) {
		t.Error(o)
	}
}

// TestWide: records and functions with very many parts.
func TestWide(t *testing.T) {
	const n = 20000
	p := parsed(t, "type N = int; type A = {}; func f() int { return 1; } main int { return 1; }")
	d, f := &p.Defs[1].T, &p.Funcs[0]
	record, call := api.Expr{Kind: api.XRec, S: "A"}, api.Expr{Kind: api.XApply, Parts: []api.Expr{variable("f")}}
	for i := range n {
		name, typ := "a"+strconv.Itoa(i), api.Type{Kind: api.TName, Name: "N"}
		d.Names, d.Embeds, d.Parts = append(d.Names, name), append(d.Embeds, false), append(d.Parts, typ)
		f.Params = append(f.Params, api.Param{Name: name, T: typ})
		record.Names, record.Parts = append(record.Names, name), append(record.Parts, number(i))
		call.Parts = append(call.Parts, number(i))
	}
	f.Body[0].X[0] = variable("a1234")
	last := api.Expr{Kind: api.XField, S: "a4321", Parts: []api.Expr{variable("r")}}
	p.Main.Body = []api.Stmt{stmt(api.SPrint, call), {Kind: api.SLet, Name: "r", X: []api.Expr{record}}, stmt(api.SPrint, last), stmt(api.SReturn, last)}
	if o, _ := soon(t, lowered(t, accepted(t, p)), 1); !same(o, api.Outcome{Out: []string{"1234", "4321"}, Value: "4321", Steps: 6}) {
		t.Error(o)
	}
}

// TestManyVariables: very many variables in each of as many open calls as there may be, of which few are come to.
func TestManyVariables(t *testing.T) {
	p := parsed(t, "func f(n int) int { if n < 1 { return 7; } return f(n - 1); } main int { return f(499); }")
	skipped := stmt(api.SIf, api.Expr{Kind: api.XBool})
	for i := range 20000 {
		skipped.Body = append(skipped.Body, api.Stmt{Kind: api.SLet, Name: "v" + strconv.Itoa(i), X: []api.Expr{number(i)}})
	}
	p.Funcs[0].Body = slices.Insert(p.Funcs[0].Body, 1, skipped)
	if o, _ := soon(t, lowered(t, accepted(t, p)), 1); !same(o, api.Outcome{Value: "7", Steps: 1 + 3 + 499*4}) {
		t.Error(o)
	}
}

// TestManyRuns: P14.2, very many runs with one cache.
func TestManyRuns(t *testing.T) {
	c := made(t, fourth)
	fuels := make([]int, 100000)
	for i := range fuels {
		fuels[i] = i % 6
	}
	l, n := machine.Runs(c, 1, fuels...)
	calls := 0
	for i, o := range l {
		if fuels[i] >= 2 {
			calls++
		}
		if o.Steps != min(fuels[i], 4) || (o.Value == "7") != (fuels[i] >= 4) {
			t.Fatal(i, o)
		}
	}
	if len(l) != len(fuels) || n != (machine.Counts{Builds: 1, Lookups: 1, Calls: calls, Pairs: 1}) {
		t.Error(len(l), n)
	}
}
