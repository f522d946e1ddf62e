package parse_test

import (
	"strconv"
	"strings"
	"testing"

	"coil/api"
	"coil/syntax"
)

// readsBack fails, unless what is read of src is right, and what syntax writes of it is read as the same, but for places.
func readsBack(t *testing.T, e entry, src string) {
	t.Helper()
	if e.write == nil {
		return
	}
	written, why := e.write(src)
	if why != api.OK {
		t.Errorf("%s %.80q: %v", e.rule, src, why)
		return
	}
	first, _ := e.read(src)
	again, err := e.read(written)
	if err != nil || placeless(again) != placeless(first) {
		t.Errorf("%s %.80q: %s, %v, not %s", e.rule, written, again, err, first)
	}
}

// readsTree fails, unless what syntax wrote is read as that tree, but for places.
func readsTree(t *testing.T, rule, written string, why api.Errno, tree string) {
	t.Helper()
	got, err := entryOf(rule).read(written)
	if why != api.OK || err != nil || placeless(got) != placeless(tree) {
		t.Errorf("%s %q, %v: %s, %v, not %s", rule, written, why, got, err, tree)
	}
}

func named(s string) api.Type { return api.Type{Kind: api.TName, Name: s} }

func typ(kind int, parts ...api.Type) api.Type { return api.Type{Kind: kind, Parts: parts} }

// typesOver is each kind of type with p at each place for a part.
func typesOver(p api.Type) []api.Type {
	a := named("A")
	sig := func(parts ...api.Type) api.Type { return typ(api.TFn, parts...) }
	return []api.Type{
		p, typ(api.TPtr, p), sig(p), sig(p, a), sig(a, p), sig(a, p, a, p),
		{Kind: api.TRec, Names: []string{"a"}, Embeds: []bool{false}, Parts: []api.Type{p}},
		{Kind: api.TRec, Names: []string{"b", "a", "c"}, Embeds: []bool{true, false, true}, Parts: []api.Type{a, p, p}},
		{Kind: api.TIface, Names: []string{"a"}, Parts: []api.Type{sig(p)}},
		{Kind: api.TIface, Names: []string{"b", "a"}, Parts: []api.Type{sig(p, a), sig(a, a, p)}},
	}
}

func someTypes() []api.Type {
	l := []api.Type{typ(api.TInt), typ(api.TBool), typ(api.TText), named("B"), typ(api.TRec), typ(api.TIface)}
	for range 3 {
		var longer []api.Type
		for _, p := range l {
			longer = append(longer, typesOver(p)...)
		}
		l = longer
	}
	return l
}

// TestTypesBack: P3.3, types that syntax writes.
func TestTypesBack(t *testing.T) {
	for _, x := range someTypes() {
		written, why := syntax.Type(x)
		readsTree(t, "<type>", written, why, showType(x))
	}
}

func expr(kind int, s string, parts ...api.Expr) api.Expr {
	return api.Expr{Kind: kind, S: s, Parts: parts}
}

func typed(kind int, t api.Type, parts ...api.Expr) api.Expr {
	return api.Expr{Kind: kind, T: []api.Type{t}, Parts: parts}
}

// exprsOver is each kind of expression with p at each place for a part.
func exprsOver(p api.Expr) []api.Expr {
	v := expr(api.XVar, "v")
	l := []api.Expr{
		expr(api.XNeg, "", p), expr(api.XNot, "", p),
		typed(api.XTo, typ(api.TFn, named("A")), p), expr(api.XField, "a", p),
		expr(api.XCall, "a", p), expr(api.XCall, "a", v, p), expr(api.XCall, "a", p, v, p),
		expr(api.XApply, "", p), expr(api.XApply, "", v, p), expr(api.XApply, "", p, p, v),
	}
	for _, kind := range []int{api.XRec, api.XNew} {
		one, two := expr(kind, "P", p), expr(kind, "P", v, p)
		one.Names, two.Names = []string{"a"}, []string{"b", "a"}
		l = append(l, one, two)
	}
	for kind := api.XMul; kind <= api.XOr; kind++ {
		l = append(l, expr(kind, "", p, v), expr(kind, "", v, p))
	}
	return l
}

func someExprs() []api.Expr {
	least := []api.Expr{
		{Kind: api.XInt}, {Kind: api.XInt, N: 70}, expr(api.XText, ""), expr(api.XText, "\"\\\n("), {Kind: api.XBool, N: 1}, {Kind: api.XBool},
		expr(api.XVar, "x"), expr(api.XSelf, ""), typed(api.XNil, typ(api.TPtr, named("A"))), expr(api.XRec, "P"), expr(api.XNew, "P"),
	}
	all := least
	level := least[6:7]
	for range 3 {
		var longer []api.Expr
		for _, p := range level {
			longer = append(longer, exprsOver(p)...)
		}
		all = append(all, longer...)
		level = longer
	}
	for _, p := range least {
		all = append(all, exprsOver(p)...)
	}
	return all
}

// TestExprsBack: P3.3, expressions that syntax writes: each kind at each place of each kind.
func TestExprsBack(t *testing.T) {
	for _, x := range someExprs() {
		written, why := syntax.Expr(x)
		readsTree(t, "<expr>", written, why, showExpr(x))
	}
}

func stmt(kind int, name string, x api.Expr, types ...api.Type) api.Stmt {
	return api.Stmt{Kind: kind, Name: name, X: []api.Expr{x}, T: types}
}

func simpleStmts(x api.Expr) []api.Stmt {
	return []api.Stmt{
		stmt(api.SLet, "a", x), stmt(api.SLet, "a", x, typ(api.TRec)), stmt(api.SLet, "a", x, typ(api.TPtr, named("A"))),
		stmt(api.SSet, "a", x), stmt(api.SPrint, "", x), stmt(api.SReturn, "", x), stmt(api.SDo, "", x), stmt(api.SIf, "", x), stmt(api.SWhile, "", x),
	}
}

// stmtsOver is each statement that holds others, with l in each of its blocks.
func stmtsOver(x api.Expr, l []api.Stmt) []api.Stmt {
	do := stmt(api.SDo, "", x)
	var all []api.Stmt
	for _, blocks := range [][2][]api.Stmt{{l, nil}, {nil, l}, {l, {do}}, {{do, do}, l}} {
		s := stmt(api.SIf, "", x)
		s.Body, s.Else = blocks[0], blocks[1]
		all = append(all, s)
	}
	s := stmt(api.SWhile, "", x)
	s.Body = l
	return append(all, s)
}

func someStmts() []api.Stmt {
	x := expr(api.XVar, "x")
	all := simpleStmts(x)
	for _, y := range exprsOver(x) {
		all = append(all, simpleStmts(y)...)
		for _, s := range simpleStmts(y) {
			all = append(all, stmtsOver(y, []api.Stmt{s, s})...)
		}
	}
	for _, s := range stmtsOver(x, simpleStmts(x)) {
		all = append(all, stmtsOver(x, []api.Stmt{s, s})...)
	}
	return all
}

// TestStmtsBack: P3.3, statements that syntax writes.
func TestStmtsBack(t *testing.T) {
	all := someStmts()
	for i, s := range all {
		l := []api.Stmt{s, all[(i*7)%len(all)]}
		written, why := syntax.Stmts(l...)
		readsTree(t, "<stmts>", written, why, showStmts(l))
	}
}

// TestProgramsBack: P3.3, programs that syntax writes.
func TestProgramsBack(t *testing.T) {
	types, stmts := someTypes(), someStmts()
	for i, s := range stmts {
		a, b := types[i%len(types)], types[i*11%len(types)]
		params := []api.Param{{Name: "a", T: a}, {Name: "b", T: b}}[:i%3]
		p := api.Program{Main: api.Code{Result: a, Body: stmts[i : i+i%2]}}
		for j := range i % 3 {
			name := "m" + strconv.Itoa(j)
			p.Defs = append(p.Defs, api.Def{Name: "A" + name, T: a})
			p.Methods = append(p.Methods, api.Code{Owner: "A" + name, Name: name, Params: params, Result: b, Body: []api.Stmt{s}})
			p.Funcs = append(p.Funcs, api.Code{Name: name, Params: params, Result: a, Body: []api.Stmt{s, s}})
		}
		written, why := syntax.Program(p)
		readsTree(t, "<program>", written, why, showProgram(p))
	}
}

// tight puts a blank just where two tokens would else be one, or none.
func tight(a, b string) string {
	inName := func(c byte) bool { return strings.IndexByte("(){};:,.=<+-*\"", c) < 0 }
	if inName(a[len(a)-1]) && inName(b[0]) || a[len(a)-1] == '=' && b[0] == '=' {
		return " "
	}
	return ""
}

// TestBlanks: P3.3, blanks and remarks turn nothing but places, and these as the tokens' places are.
func TestBlanks(t *testing.T) {
	for rule, src := range long() {
		e := entryOf(rule)
		tokens := strings.Fields(src)
		usual, places := joined(tokens, blank)
		want, err := e.read(usual)
		if err != nil {
			t.Fatal(rule, err)
		}
		for _, between := range []func(a, b string) string{
			tight,
			func(a, b string) string { return "\r\n\t " },
			func(a, b string) string { return "//} ; \"\n" },
			func(a, b string) string { return tight(a, b) + "// a\n// b\n" },
		} {
			other, moved := joined(tokens, between)
			turned := placePattern.ReplaceAllStringFunc(want, func(s string) string {
				n, _ := strconv.Atoi(s[1:])
				for i, p := range places {
					if p == n {
						return "@" + strconv.Itoa(moved[i])
					}
				}
				t.Error(rule, "no token at", s)
				return s
			})
			reads(t, e, other, turned)
			reads(t, e, other+" // behind", turned)
		}
	}
}
