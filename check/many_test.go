package check_test

import (
	"slices"
	"strconv"
	"testing"

	"coil/api"
	"coil/check"
)

func number(n int) api.Expr { return api.Expr{Kind: api.XInt, N: n} }

func variable(name string) api.Expr { return api.Expr{Kind: api.XVar, S: name} }

func pair(kind int, a, b api.Expr) api.Expr { return api.Expr{Kind: kind, Parts: []api.Expr{a, b}} }

func field(x api.Expr, name string) api.Expr {
	return api.Expr{Kind: api.XField, S: name, Parts: []api.Expr{x}}
}

func stmt(kind int, x api.Expr) api.Stmt { return api.Stmt{Kind: kind, X: []api.Expr{x}} }

// checked is what is known of definitions and functions with a main one of these statements, ahead of its return.
func checked(t *testing.T, src string, stmts ...api.Stmt) *check.Checked {
	t.Helper()
	p := parsed(t, src+" main int { return 0; }")
	p.Main.Body = append(stmts, p.Main.Body...)
	c, err := check.Program(p)
	if err != nil {
		t.Fatal(err)
	}
	return c
}

// TestDeep: R6, first parts may be nested far deeper than others.
func TestDeep(t *testing.T) {
	const deep = 1 << 16
	sum, way, casts, calls := number(1), variable("l"), variable("t"), variable("l")
	for i := range deep - 8 {
		sum = pair(api.XAdd, sum, number(i))
		way = field(way, "next")
		casts = api.Expr{Kind: api.XTo, T: []api.Type{{Kind: api.TName, Name: []string{"I", "T"}[i%2]}}, Parts: []api.Expr{casts}}
		calls = api.Expr{Kind: api.XCall, S: "o", Parts: []api.Expr{calls, number(i)}}
	}
	let := api.Stmt{Kind: api.SLet, Name: "l", X: []api.Expr{{Kind: api.XNil, T: []api.Type{{Kind: api.TName, Name: "P"}}}}}
	anything := api.Stmt{Kind: api.SLet, Name: "t", T: []api.Type{{Kind: api.TName, Name: "T"}}, X: []api.Expr{number(1)}}
	c := checked(t, set+"method L.o(n int) P { return self.next; }", let, anything, stmt(api.SPrint, sum), stmt(api.SPrint, way), stmt(api.SPrint, casts), stmt(api.SPrint, calls))
	if up, down := c.Casts(); up != (deep-8)/2 || down != (deep-8)/2 || len(c.Types()) < 6*(deep-8) {
		t.Error(up, down, len(c.Types()))
	}
}

// TestLong: P9.1, 1: a program whose text would be too long, or have too many tokens, is right all the same; and many
// statements, with variables that are all known at the same place, are no trouble.
func TestLong(t *testing.T) {
	const n = 100000
	var stmts []api.Stmt
	last := number(0)
	for i := range n {
		name := "v" + strconv.Itoa(i)
		stmts = append(stmts, api.Stmt{Kind: api.SLet, Name: name, X: []api.Expr{pair(api.XMul, last, number(2))}})
		last = variable(name)
	}
	stmts = append(stmts, api.Stmt{Kind: api.SWhile, X: []api.Expr{{Kind: api.XBool}}, Body: []api.Stmt{{Kind: api.SSet, Name: "v7", X: []api.Expr{last}}}})
	if c := checked(t, "", stmts...); c.Size() != 4*n+4+2 || len(c.Types()) != 3*n+2+1 {
		t.Error(c.Size(), len(c.Types()))
	}
}

// TestLookups: P9.1, very many members that are found by way of very many embedded fields, of records with many fields.
func TestLookups(t *testing.T) {
	const depth, fields, times = 300, 300, 20000
	src := ""
	for i := range depth {
		n := strconv.Itoa(i)
		src += "type R" + n + " = {embed r" + n + " R" + strconv.Itoa(i+1) + "; a" + n + " P;}; "
	}
	p := parsed(t, "type P = *int; "+src+"type R"+strconv.Itoa(depth)+" = {x int;}; method R"+strconv.Itoa(depth)+".m(n int) int { return n; } func f(r R0) int { return 1; } main int { return 1; }")
	for i := range p.Defs[1 : depth+1] {
		d := &p.Defs[1+i].T
		for k := range fields {
			d.Names, d.Embeds, d.Parts = append(d.Names, "b"+strconv.Itoa(k)), append(d.Embeds, false), append(d.Parts, d.Parts[1])
		}
	}
	var body []api.Stmt
	for i := range times {
		body = append(body, stmt(api.SDo, field(variable("r"), "x")), stmt(api.SDo, api.Expr{Kind: api.XCall, S: "m", Parts: []api.Expr{variable("r"), number(i)}}), stmt(api.SDo, field(variable("r"), "a"+strconv.Itoa(i%depth))))
	}
	p.Funcs[0].Body = append(body, p.Funcs[0].Body...)
	c, err := check.Program(p)
	if err != nil || c.Size() != times*(3+4+3)+4+2 {
		t.Error(err)
	}
}

// TestWide: P9.1, records and heads with very many parts.
func TestWide(t *testing.T) {
	const n = 20000
	p := parsed(t, "type N = int; type A = {}; func f() int { return 1; } main int { return 1; }")
	record, call := api.Expr{Kind: api.XRec, S: "A"}, api.Expr{Kind: api.XApply, Parts: []api.Expr{variable("f")}}
	for i := range n {
		name := "a" + strconv.Itoa(i)
		d, f := &p.Defs[1].T, &p.Funcs[0]
		d.Names, d.Embeds, d.Parts = append(d.Names, name), append(d.Embeds, false), append(d.Parts, api.Type{Kind: api.TName, Name: "N"})
		f.Params = append(f.Params, api.Param{Name: name, T: api.Type{Kind: api.TName, Name: "N"}})
		record.Names, record.Parts = append(record.Names, name), append(record.Parts, number(i))
		call.Parts = append(call.Parts, number(i))
	}
	slices.Reverse(record.Names)
	p.Main.Body = append([]api.Stmt{stmt(api.SDo, record), stmt(api.SDo, call), stmt(api.SDo, record)}, p.Main.Body...)
	if c, err := check.Program(p); err != nil || c.Size() != 3*n+9+2 {
		t.Error(err)
	}
	p.Main.Body[1].X[0].Parts = call.Parts[:n]
	if r := refusal(t, p); r == nil || r.Why != api.ErrCount {
		t.Error(r)
	}
	p.Main.Body[0].X[0].Parts[n-1] = api.Expr{Kind: api.XBool, Place: api.Place{At: 7}}
	if r := refusal(t, p); r == nil || r.Why != api.ErrType || r.Where() != 7 {
		t.Error(r)
	}
}
