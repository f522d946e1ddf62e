package lower_test

import (
	"slices"
	"strconv"
	"testing"
	"time"

	"coil/api"
	"coil/lower"
)

// soon answers a program's code, and fails, unless that is there within a time that is far more than it needs.
func soon(t *testing.T, p api.Program) *lower.Code {
	t.Helper()
	checked := accepted(t, p)
	done := make(chan *lower.Code, 1)
	go func() {
		c, _ := lower.Program(checked)
		done <- c
	}()
	select {
	case c := <-done:
		bounded(t, "many", c, len(codes(p)))
		return c
	case <-time.After(time.Minute):
		t.Fatal("it does not end")
		return nil
	}
}

func variable(name string) api.Expr { return api.Expr{Kind: api.XVar, S: name} }

func number(n int) api.Expr { return api.Expr{Kind: api.XInt, N: n} }

func stmt(kind int, x api.Expr) api.Stmt { return api.Stmt{Kind: kind, X: []api.Expr{x}} }

// deepest is how deep parts are nested in these tests: almost as deep as they may be.
const deepest = 1<<16 - 16

// nested is a program whose function f prints an expression, which was put into others as first part again and again.
func nested(t *testing.T, times int, first string, outer func(x api.Expr) api.Expr) api.Program {
	p := parsed(t, function("print "+first+";"))
	x := &p.Funcs[0].Body[0].X[0]
	for range times {
		*x = outer(*x)
	}
	return p
}

// TestDeepFirst: R6, first parts that are nested as deep as they may be; each call of them has a site.
func TestDeepFirst(t *testing.T) {
	c := soon(t, nested(t, deepest, "j", func(x api.Expr) api.Expr {
		return api.Expr{Kind: api.XCall, S: "n", Parts: []api.Expr{x, variable("i")}}
	}))
	if l := c.Sites(); !slices.Equal(l, slices.Repeat([]lower.Site{{Iface: id(t, c, "J"), Method: 2}}, deepest)) {
		t.Error(len(l))
	}
	soon(t, nested(t, deepest, "1", func(x api.Expr) api.Expr {
		return api.Expr{Kind: api.XAdd, Parts: []api.Expr{x, number(1)}}
	}))
	soon(t, nested(t, deepest, "true", func(x api.Expr) api.Expr {
		return api.Expr{Kind: api.XAnd, Parts: []api.Expr{x, {Kind: api.XBool, N: 1}}}
	}))
	soon(t, nested(t, deepest, "h", func(x api.Expr) api.Expr {
		return api.Expr{Kind: api.XField, S: "h", Parts: []api.Expr{x}}
	}))
	c = soon(t, nested(t, deepest/2, "j", func(x api.Expr) api.Expr {
		x = api.Expr{Kind: api.XTo, T: []api.Type{{Kind: api.TName, Name: "A"}}, Parts: []api.Expr{x}}
		return api.Expr{Kind: api.XCall, S: "n", Parts: []api.Expr{x, variable("i")}}
	}))
	if l := c.Sites(); len(l) != 0 {
		t.Error(len(l))
	}
}

// TestManyStatements: very many statements, variables and codes, in one program.
func TestManyStatements(t *testing.T) {
	const n = 50000
	p := parsed(t, "type I = interface {m() int;}; func f(i I) int { return i.m(); } main int { return 0; }")
	first := p.Funcs[0]
	for i := range n {
		name := "v" + strconv.Itoa(i)
		p.Main.Body = slices.Insert(p.Main.Body, i, api.Stmt{Kind: api.SLet, Name: name, X: []api.Expr{number(i)}})
	}
	for i := range 300 { // each has a type of its own
		f := first
		f.Name += strconv.Itoa(i)
		p.Funcs = append(p.Funcs, f)
	}
	c := soon(t, p)
	slots(t, c, ".", n)
	slots(t, c, ".f299", 1)
	slots(t, c, ".f300", -1)
	if l := c.Sites(); len(l) != 301 {
		t.Error(len(l))
	}
}

// TestManySites: very many calls by one path.
func TestManySites(t *testing.T) {
	const n = 30000
	p := chain(t, 1000, false, "a.k()")
	call := p.Funcs[0].Body[0].X[0]
	p.Funcs[0].Body = nil
	for range n {
		p.Funcs[0].Body = append(p.Funcs[0].Body, stmt(api.SDo, call))
	}
	p.Funcs[0].Body = append(p.Funcs[0].Body, stmt(api.SReturn, call))
	if l := soon(t, p).Sites(); len(l) != n+1 {
		t.Error(len(l))
	}
}

// TestWide: records, interfaces and functions with very many parts.
func TestWide(t *testing.T) {
	const n = 20000
	p := parsed(t, "type N = int; type A = {}; func f() int { return 1; } main int { return 1; }")
	d, f := &p.Defs[1].T, &p.Funcs[0]
	record, call := api.Expr{Kind: api.XRec, S: "A"}, api.Expr{Kind: api.XApply, Parts: []api.Expr{variable("f")}}
	for i := range n {
		name, typ := "a"+strconv.Itoa(i), api.Type{Kind: api.TName, Name: "N"}
		d.Names, d.Embeds, d.Parts = append(d.Names, name), append(d.Embeds, false), append(d.Parts, typ)
		f.Params = append(f.Params, api.Param{Name: name, T: typ})
		record.Names, record.Parts = append(record.Names, name), append(record.Parts, number(i))
		call.Parts = append(call.Parts, number(i))
	}
	f.Body[0].X[0] = variable("a1234")
	last := api.Expr{Kind: api.XField, S: "a4321", Parts: []api.Expr{variable("r")}}
	p.Main.Body = []api.Stmt{stmt(api.SPrint, call), {Kind: api.SLet, Name: "r", X: []api.Expr{record}}, stmt(api.SPrint, last), stmt(api.SReturn, last)}
	c := soon(t, p)
	slots(t, c, ".f", n)
	slots(t, c, ".", 1)
	if o := alike(t, "wide", c, 9, map[string]int{}); o.Why != api.OK || !slices.Equal(o.Out, []string{"1234", "4321"}) || o.Value != "4321" {
		t.Error(o)
	}
}

// TestWideInterface: an interface with as many methods as there may be.
func TestWideInterface(t *testing.T) {
	const n = 400
	p := parsed(t, "type N = int; type W = interface {}; func f(w W) int { return 1; } main int { return 1; }")
	d, f := &p.Defs[1].T, &p.Funcs[0]
	var names []string
	for i := n - 1; i >= 0; i-- {
		names = append(names, "m"+strconv.Itoa(i))
		d.Names = append(d.Names, names[len(names)-1])
		d.Parts = append(d.Parts, api.Type{Kind: api.TFn, Parts: []api.Type{{Kind: api.TName, Name: "N"}}})
		f.Body = slices.Insert(f.Body, 0, stmt(api.SPrint, api.Expr{Kind: api.XCall, S: "m" + strconv.Itoa(i), Parts: []api.Expr{variable("w")}}))
	}
	slices.Sort(names)
	c := soon(t, p)
	for i, s := range c.Sites() {
		if want := (lower.Site{Iface: id(t, c, "W"), Method: slices.Index(names, "m"+strconv.Itoa(i))}); s != want {
			t.Error(i, s, want)
		}
	}
	if len(c.Sites()) != n {
		t.Error(len(c.Sites()))
	}
}
