package syntax_test

import (
	"math"
	"slices"
	"strings"
	"testing"

	"coil/api"
	"coil/syntax"
)

func stmt(kind int, x api.Expr) api.Stmt { return api.Stmt{Kind: kind, X: []api.Expr{x}} }

func put(kind int, name string, x api.Expr, types ...api.Type) api.Stmt {
	return api.Stmt{Kind: kind, Name: name, X: []api.Expr{x}, T: types}
}

func while(body ...api.Stmt) api.Stmt {
	return api.Stmt{Kind: api.SWhile, X: []api.Expr{variable("x")}, Body: body}
}

func choice(body, others []api.Stmt) api.Stmt {
	return api.Stmt{Kind: api.SIf, X: []api.Expr{variable("x")}, Body: body, Else: others}
}

func list(l ...api.Stmt) []api.Stmt { return l }

func writesStmts(t *testing.T, want string, l ...api.Stmt) {
	t.Helper()
	got, e := syntax.Stmts(l...)
	wrote(t, want, got, e)
}

func refusesStmts(t *testing.T, want api.Errno, l ...api.Stmt) {
	t.Helper()
	got, e := syntax.Stmts(l...)
	refused(t, want, l, got, e)
}

var (
	x      = variable("x")
	again  = stmt(api.SReturn, number(0))
	wrongX = number(-1)
)

// rightStmts is at least one right statement of each kind, by its text.
func rightStmts() map[string]api.Stmt {
	return map[string]api.Stmt{
		"let a = x ;":                        put(api.SLet, "a", x),
		"let a * int = x ;":                  put(api.SLet, "a", x, pointer(integer)),
		"a = x ;":                            put(api.SSet, "a", x),
		"print x ;":                          stmt(api.SPrint, x),
		"return x ;":                         stmt(api.SReturn, x),
		"x ;":                                stmt(api.SDo, x),
		"x or 0 ;":                           stmt(api.SDo, expr(api.XOr, x, number(0))),
		"if x { }":                           choice(nil, nil),
		"if x { return 0 ; }":                choice(list(again), nil),
		"if x { } else { return 0 ; }":       choice(nil, list(again)),
		"if x { x ; } else { if x { } x ; }": choice(list(stmt(api.SDo, x)), list(choice(nil, nil), stmt(api.SDo, x))),
		"while x { }":                        while(),
		"while x { return 0 ; while x { } }": while(again, while()),
		"if x { while x { } } else { print x ; }": choice(list(while()), list(stmt(api.SPrint, x))),
	}
}

// TestStmts: P2.1, the text of each kind of statement; none; several.
func TestStmts(t *testing.T) {
	writesStmts(t, "")
	writesStmts(t, "", []api.Stmt{}...)
	for text, s := range rightStmts() {
		writesStmts(t, text, s)
		writesStmts(t, text+" "+text+" return 0 ;", s, s, again)
	}
}

// TestStmtsEmptyLists: P2.1, nil and empty lists are the same; places are not looked at.
func TestStmtsEmptyLists(t *testing.T) {
	for text, s := range rightStmts() {
		if s.T == nil {
			s.T = []api.Type{}
		}
		if s.Body == nil {
			s.Body = []api.Stmt{}
		}
		if s.Else == nil {
			s.Else = []api.Stmt{}
		}
		s.At = 9
		writesStmts(t, text, s)
	}
}

// TestStmtsWithMore: P2.1, a right statement with a field too many is refused, whatever stands beside it.
func TestStmtsWithMore(t *testing.T) {
	check := func(s api.Stmt) {
		t.Helper()
		refusesStmts(t, api.ErrArg, s)
		refusesStmts(t, api.ErrArg, s, again)
		refusesStmts(t, api.ErrArg, again, s)
	}
	for _, s := range rightStmts() {
		y := s
		y.X = append(slices.Clone(s.X), x)
		check(y)
		if s.Name == "" {
			y = s
			y.Name = "a"
			check(y)
		}
		if s.Kind != api.SLet || len(s.T) == 1 {
			y = s
			y.T = append(slices.Clone(s.T), integer)
			check(y)
		}
		if s.Kind != api.SIf && s.Kind != api.SWhile {
			y = s
			y.Body = list(again)
			check(y)
		}
		if s.Kind != api.SIf {
			y = s
			y.Else = list(again)
			check(y)
		}
	}
}

// TestStmtsWrong: P2.1, a right statement with a field too few or wrong is refused, as is a kind that is none.
func TestStmtsWrong(t *testing.T) {
	for _, s := range rightStmts() {
		for _, kind := range []int{0, -1, 8, math.MaxInt, math.MinInt} {
			y := s
			y.Kind = kind
			refusesStmts(t, api.ErrArg, y)
		}
		for _, l := range [][]api.Expr{nil, {wrongX}, {{}}} {
			y := s
			y.X = l
			refusesStmts(t, api.ErrArg, y)
		}
		if s.Name != "" {
			for _, name := range notNames() {
				y := s
				y.Name = name
				refusesStmts(t, api.ErrArg, y)
			}
		}
	}
	refusesStmts(t, api.ErrArg, put(api.SLet, "a", x, api.Type{}))
	refusesStmts(t, api.ErrArg, put(api.SLet, "a", x, named("a")))
	for _, wrong := range []api.Stmt{{}, stmt(api.SDo, wrongX), put(api.SLet, "A", x)} {
		refusesStmts(t, api.ErrArg, choice(list(wrong), nil))
		refusesStmts(t, api.ErrArg, choice(list(again, wrong), list(again)))
		refusesStmts(t, api.ErrArg, choice(nil, list(again, wrong)))
		refusesStmts(t, api.ErrArg, while(again, wrong))
		refusesStmts(t, api.ErrArg, while(while(choice(nil, list(wrong)))))
	}
}

// TestStmtsNest: P2.1 around MaxNest, in bodies and behind else; an empty block has no depth; expressions have their own.
func TestStmtsNest(t *testing.T) {
	deep := number(1)
	for range api.MaxNest - 1 {
		deep = expr(api.XNeg, deep)
	}
	for _, wrap := range []func(api.Stmt) api.Stmt{
		func(s api.Stmt) api.Stmt { return while(again, s) },
		func(s api.Stmt) api.Stmt { return choice(list(s, again), nil) },
		func(s api.Stmt) api.Stmt { return choice(nil, list(s)) },
		func(s api.Stmt) api.Stmt { return choice(list(again), list(s)) },
	} {
		for _, s := range []api.Stmt{again, while(), choice(nil, nil), stmt(api.SDo, deep), put(api.SLet, "a", x, nested(api.MaxNest-1, integer, pointer))} {
			for range api.MaxNest - 1 {
				s = wrap(s)
			}
			if _, e := syntax.Stmts(s); e != api.OK {
				t.Error(e)
			}
			if _, e := syntax.Code(api.Code{Result: integer, Body: list(s)}); e != api.OK {
				t.Error(e)
			}
			refusesStmts(t, api.ErrArg, wrap(s))
			refusesStmts(t, api.ErrArg, again, wrap(s))
			if _, e := syntax.Code(api.Code{Result: integer, Body: list(wrap(s))}); e != api.ErrArg {
				t.Error(e)
			}
		}
	}
	refusesStmts(t, api.ErrArg, stmt(api.SDo, expr(api.XNeg, deep)))
	refusesStmts(t, api.ErrArg, put(api.SLet, "a", x, nested(api.MaxNest, integer, pointer)))
}

// TestStmtsOrder: P2.1, ErrArg ahead of ErrLong ahead of ErrMany, and the edges of both.
func TestStmtsOrder(t *testing.T) {
	do := stmt(api.SDo, x)
	many := slices.Repeat(list(do), api.MaxItems/2)
	if s, e := syntax.Stmts(many...); e != api.OK || len(s) != 2*api.MaxItems-1 {
		t.Error(e, len(s))
	}
	refusesStmts(t, api.ErrMany, append(slices.Clone(many), do)...)
	text := func(n int) api.Stmt { return stmt(api.SDo, said(api.XText, strings.Repeat("a", n))) }
	if s, e := syntax.Stmts(text(api.MaxText - 4)); e != api.OK || len(s) != api.MaxText {
		t.Error(e, len(s))
	}
	refusesStmts(t, api.ErrLong, text(api.MaxText-3))
	refusesStmts(t, api.ErrLong, append(slices.Clone(many), do, text(api.MaxText))...)
	refusesStmts(t, api.ErrMany, slices.Repeat(list(do), api.MaxText/4)...)
	refusesStmts(t, api.ErrLong, slices.Repeat(list(do), api.MaxText/4+1)...)
	refusesStmts(t, api.ErrLong, slices.Repeat(list(do), api.MaxText)...)
	refusesStmts(t, api.ErrArg, append(slices.Repeat(list(do), api.MaxText), api.Stmt{})...)
	refusesStmts(t, api.ErrArg, append(slices.Clone(many), do, text(api.MaxText), stmt(api.SDo, wrongX))...)
}

func param(name string, t api.Type) api.Param { return api.Param{Name: name, T: t} }

func writesCode(t *testing.T, want string, c api.Code) {
	t.Helper()
	got, e := syntax.Code(c)
	wrote(t, want, got, e)
}

func refusesCode(t *testing.T, want api.Errno, c api.Code) {
	t.Helper()
	got, e := syntax.Code(c)
	refused(t, want, c, got, e)
}

func theMethod() api.Code {
	return api.Code{Owner: "A", Name: "m", Params: []api.Param{param("a", integer), param("b", pointer(named("B")))}, Result: named("C"), Body: list(again, while())}
}

func theFunc() api.Code {
	return api.Code{Name: "f", Params: []api.Param{param("a", integer)}, Result: function(integer), Body: list(again)}
}

func theMain() api.Code { return api.Code{Result: integer, Body: list(again)} }

// TestCode: P2.1, the text of methods, functions and the main one.
func TestCode(t *testing.T) {
	writesCode(t, "method A . m ( a int , b * B ) C { return 0 ; while x { } }", theMethod())
	writesCode(t, "func f ( a int ) fn ( ) int { return 0 ; }", theFunc())
	writesCode(t, "main int { return 0 ; }", theMain())
	writesCode(t, "main int { }", api.Code{Result: integer, Params: []api.Param{}, Body: []api.Stmt{}})
	writesCode(t, "func f ( ) { } { }", api.Code{Place: api.Place{At: 5}, Name: "f", Result: api.Type{Kind: api.TRec}})
	writesCode(t, "method A . m ( ) A { }", api.Code{Owner: "A", Name: "m", Result: named("A")})
}

// TestCodeWrong: P2.1, a code with a field too many, too few or wrong is refused.
func TestCodeWrong(t *testing.T) {
	refusesCode(t, api.ErrArg, api.Code{})
	refusesCode(t, api.ErrArg, api.Code{Owner: "A", Result: integer})
	refusesCode(t, api.ErrArg, api.Code{Result: integer, Params: []api.Param{param("a", integer)}})
	refusesCode(t, api.ErrArg, api.Code{Owner: "A", Result: integer, Params: []api.Param{param("a", integer)}})
	for _, c := range []api.Code{theMethod(), theFunc()} {
		for _, name := range notNames() {
			d := c
			d.Params = []api.Param{param("z", integer), param(name, integer)}
			refusesCode(t, api.ErrArg, d)
			if name != "" {
				d = c
				d.Name = name
				refusesCode(t, api.ErrArg, d)
			}
		}
		for _, name := range notTypeNames() {
			if name != "" {
				d := c
				d.Owner = name
				refusesCode(t, api.ErrArg, d)
			}
		}
		d := c
		d.Params = []api.Param{param("a", integer), param("b", integer), param("a", named("B"))}
		refusesCode(t, api.ErrArg, d)
		d.Params = []api.Param{param("a", integer), param("b", api.Type{})}
		refusesCode(t, api.ErrArg, d)
	}
	for _, c := range []api.Code{theMethod(), theFunc(), theMain()} {
		for _, wrong := range []api.Type{{}, named("a"), nested(api.MaxNest, integer, pointer)} {
			d := c
			d.Result = wrong
			refusesCode(t, api.ErrArg, d)
		}
		d := c
		d.Body = list(again, api.Stmt{})
		refusesCode(t, api.ErrArg, d)
	}
}

func theProgram() api.Program {
	return api.Program{
		Defs:    []api.Def{{Name: "B", T: integer}, {Name: "A", T: field("a", named("B"))}, {Name: "B", T: named("A")}},
		Methods: []api.Code{theMethod(), {Owner: "A", Name: "a", Result: integer}},
		Funcs:   []api.Code{theFunc(), {Name: "a", Result: integer}},
		Main:    theMain(),
	}
}

// TestProgram: P2.1, definitions, methods, functions, the main one, each in the order of its list.
func TestProgram(t *testing.T) {
	got, e := syntax.Program(theProgram())
	wrote(t, "type B = int ; type A = { a B ; } ; type B = A ; "+
		"method A . m ( a int , b * B ) C { return 0 ; while x { } } method A . a ( ) int { } "+
		"func f ( a int ) fn ( ) int { return 0 ; } func a ( ) int { } main int { return 0 ; }", got, e)
	got, e = syntax.Program(api.Program{Main: theMain()})
	wrote(t, "main int { return 0 ; }", got, e)
	got, e = syntax.Program(api.Program{Defs: []api.Def{}, Methods: []api.Code{}, Funcs: []api.Code{}, Main: theMain()})
	wrote(t, "main int { return 0 ; }", got, e)
}

// TestProgramWrong: P2.1, a program with a wrong part, or with a code in a list that isn't its own, is refused.
func TestProgramWrong(t *testing.T) {
	check := func(change func(p *api.Program)) {
		t.Helper()
		p := theProgram()
		change(&p)
		got, e := syntax.Program(p)
		refused(t, api.ErrArg, p, got, e)
	}
	check(func(p *api.Program) { *p = api.Program{} })
	for _, name := range notTypeNames() {
		check(func(p *api.Program) { p.Defs[2].Name = name })
	}
	for _, wrong := range []api.Type{{}, named("a"), nested(api.MaxNest, integer, pointer)} {
		check(func(p *api.Program) { p.Defs[2].T = wrong })
		check(func(p *api.Program) { p.Methods[1].Result = wrong })
		check(func(p *api.Program) { p.Funcs[1].Result = wrong })
		check(func(p *api.Program) { p.Main.Result = wrong })
	}
	check(func(p *api.Program) { p.Methods[1] = theFunc() })
	check(func(p *api.Program) { p.Methods[1] = theMain() })
	check(func(p *api.Program) { p.Methods[1].Name = "" })
	check(func(p *api.Program) { p.Funcs[1] = theMethod() })
	check(func(p *api.Program) { p.Funcs[1] = theMain() })
	check(func(p *api.Program) { p.Main = theMethod() })
	check(func(p *api.Program) { p.Main = theFunc() })
	check(func(p *api.Program) { p.Main.Owner = "A" })
	check(func(p *api.Program) { p.Main.Params = []api.Param{param("a", integer)} })
	for _, wrong := range []api.Stmt{{}, stmt(api.SDo, wrongX)} {
		check(func(p *api.Program) { p.Methods[1].Body = list(wrong) })
		check(func(p *api.Program) { p.Funcs[1].Body = list(wrong) })
		check(func(p *api.Program) { p.Main.Body = list(wrong) })
	}
}

// TestCodesOrder: P2.1, codes and programs are refused in the same order.
func TestCodesOrder(t *testing.T) {
	do := stmt(api.SDo, x)
	of := func(n int, rest ...api.Stmt) api.Code {
		return api.Code{Result: integer, Body: append(slices.Repeat(list(do), n), rest...)}
	}
	most := api.MaxItems/2 - 2 // main int { }: four tokens
	if s, e := syntax.Code(of(most)); e != api.OK || strings.Count(s, " ") != api.MaxItems-1 {
		t.Error(e, len(s))
	}
	if s, e := syntax.Program(api.Program{Main: of(most)}); e != api.OK || strings.Count(s, " ") != api.MaxItems-1 {
		t.Error(e, len(s))
	}
	for want, c := range map[api.Errno]api.Code{
		api.ErrMany: of(most + 1),
		api.ErrLong: of(api.MaxText),
		api.ErrArg:  of(api.MaxText, api.Stmt{}),
	} {
		refusesCode(t, want, c)
		got, e := syntax.Program(api.Program{Main: c})
		refused(t, want, want, got, e)
	}
}
