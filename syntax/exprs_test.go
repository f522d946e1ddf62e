package syntax_test

import (
	"math"
	"slices"
	"strings"
	"testing"

	"coil/api"
	"coil/syntax"
)

func variable(s string) api.Expr { return api.Expr{Kind: api.XVar, S: s} }

func number(n int) api.Expr { return api.Expr{Kind: api.XInt, N: n} }

func expr(kind int, parts ...api.Expr) api.Expr { return api.Expr{Kind: kind, Parts: parts} }

func said(kind int, s string, parts ...api.Expr) api.Expr {
	return api.Expr{Kind: kind, S: s, Parts: parts}
}

func typed(kind int, t api.Type, parts ...api.Expr) api.Expr {
	return api.Expr{Kind: kind, T: []api.Type{t}, Parts: parts}
}

// literal is the record literal of that kind with one field.
func literal(kind int, x api.Expr) api.Expr {
	return api.Expr{Kind: kind, S: "P", Names: []string{"a"}, Parts: []api.Expr{x}}
}

func writesExpr(t *testing.T, want string, x api.Expr) {
	t.Helper()
	got, e := syntax.Expr(x)
	wrote(t, want, got, e)
}

func refusesExpr(t *testing.T, want api.Errno, x api.Expr) {
	t.Helper()
	got, e := syntax.Expr(x)
	refused(t, want, x, got, e)
}

// sample is a right expression with its text and its level, as the chapter says them.
type sample struct {
	x     api.Expr
	text  string
	level int
}

// samples is at least one right expression of each kind.
func samples() []sample {
	x, y, z := variable("x"), variable("y"), variable("z")
	return []sample{
		{number(0), "0", 8},
		{number(math.MaxInt), "9223372036854775807", 8},
		{said(api.XText, ""), `""`, 8},
		{said(api.XText, "a\n\"\\ ~"), `"a\n\"\\ ~"`, 8},
		{api.Expr{Kind: api.XBool, N: 1}, "true", 8},
		{api.Expr{Kind: api.XBool}, "false", 8},
		{x, "x", 8},
		{expr(api.XSelf), "self", 8},
		{typed(api.XNil, pointer(named("A"))), "nil * A", 8},
		{said(api.XRec, "P"), "P { }", 8},
		{api.Expr{Kind: api.XRec, S: "P", Names: []string{"a", "b"}, Parts: []api.Expr{x, y}}, "P { a : x , b : y }", 8},
		{said(api.XNew, "P"), "new P { }", 8},
		{literal(api.XNew, x), "new P { a : x }", 8},
		{said(api.XField, "a", x), "x . a", 7},
		{said(api.XCall, "a", x), "x . a ( )", 7},
		{said(api.XCall, "a", x, y, z), "x . a ( y , z )", 7},
		{expr(api.XApply, x), "x ( )", 7},
		{expr(api.XApply, x, y, z), "x ( y , z )", 7},
		{typed(api.XTo, named("T"), x), "x to T", 7},
		{expr(api.XNeg, x), "- x", 6},
		{expr(api.XNot, x), "not x", 6},
		{expr(api.XMul, x, y), "x * y", 5},
		{expr(api.XAdd, x, y), "x + y", 4},
		{expr(api.XSub, x, y), "x - y", 4},
		{expr(api.XEq, x, y), "x == y", 3},
		{expr(api.XLess, x, y), "x < y", 3},
		{expr(api.XAnd, x, y), "x and y", 2},
		{expr(api.XOr, x, y), "x or y", 1},
	}
}

// TestExpr: P2.1, the text of each kind of expression.
func TestExpr(t *testing.T) {
	for _, s := range samples() {
		writesExpr(t, s.text, s.x)
	}
}

// TestExprRuns: the chapter's runs and examples of expressions.
func TestExprRuns(t *testing.T) {
	one, two, three := number(1), number(2), number(3)
	x, y, z := variable("x"), variable("y"), variable("z")
	writesExpr(t, "( 1 + 2 ) * 3", expr(api.XMul, expr(api.XAdd, one, two), three))
	writesExpr(t, "1 + 2 * 3", expr(api.XAdd, one, expr(api.XMul, two, three)))
	writesExpr(t, "1 - ( 2 - 3 )", expr(api.XSub, one, expr(api.XSub, two, three)))
	writesExpr(t, "( x . a ) ( )", expr(api.XApply, said(api.XField, "a", x)))
	writesExpr(t, "x . a ( )", said(api.XCall, "a", x))
	writesExpr(t, "not ( x == y )", expr(api.XNot, expr(api.XEq, x, y)))
	writesExpr(t, "( x == y ) == z", expr(api.XEq, expr(api.XEq, x, y), z))
	writesExpr(t, "- - 1", expr(api.XNeg, expr(api.XNeg, one)))
	refusesExpr(t, api.ErrArg, number(-1))
}

// place is where a part stands in an expression: the level that is asked there.
type place struct {
	with  func(api.Expr) api.Expr
	text  string // # stands for the part
	asked int
	apply bool // an XField may not stand here bare
}

func places() []place {
	v := variable("v")
	l := []place{
		{func(x api.Expr) api.Expr { return expr(api.XNeg, x) }, "- #", 6, false},
		{func(x api.Expr) api.Expr { return expr(api.XNot, x) }, "not #", 6, false},
		{func(x api.Expr) api.Expr { return typed(api.XTo, integer, x) }, "# to int", 7, false},
		{func(x api.Expr) api.Expr { return said(api.XField, "b", x) }, "# . b", 7, false},
		{func(x api.Expr) api.Expr { return said(api.XCall, "b", x, v) }, "# . b ( v )", 7, false},
		{func(x api.Expr) api.Expr { return said(api.XCall, "b", v, x) }, "v . b ( # )", 1, false},
		{func(x api.Expr) api.Expr { return said(api.XCall, "b", v, v, x) }, "v . b ( v , # )", 1, false},
		{func(x api.Expr) api.Expr { return expr(api.XApply, x, v) }, "# ( v )", 7, true},
		{func(x api.Expr) api.Expr { return expr(api.XApply, v, x, v) }, "v ( # , v )", 1, false},
		{func(x api.Expr) api.Expr { return literal(api.XRec, x) }, "P { a : # }", 1, false},
		{func(x api.Expr) api.Expr { return literal(api.XNew, x) }, "new P { a : # }", 1, false},
	}
	for _, two := range []struct {
		kind        int
		sign        string
		left, right int
	}{
		{api.XOr, "or", 1, 2}, {api.XAnd, "and", 2, 3}, {api.XEq, "==", 4, 4}, {api.XLess, "<", 4, 4},
		{api.XAdd, "+", 4, 5}, {api.XSub, "-", 4, 5}, {api.XMul, "*", 5, 6},
	} {
		l = append(l,
			place{func(x api.Expr) api.Expr { return expr(two.kind, x, v) }, "# " + two.sign + " v", two.left, false},
			place{func(x api.Expr) api.Expr { return expr(two.kind, v, x) }, "v " + two.sign + " #", two.right, false})
	}
	return l
}

// TestParentheses: P2.1, where they stand and where they don't: each kind at each place of each kind.
func TestParentheses(t *testing.T) {
	for _, p := range places() {
		for _, s := range samples() {
			part := s.text
			if s.level < p.asked || p.apply && s.x.Kind == api.XField {
				part = "( " + part + " )"
			}
			writesExpr(t, strings.Replace(p.text, "#", part, 1), p.with(s.x))
		}
	}
}

// TestExprEmptyLists: P2.1, nil and empty lists are the same; places are not looked at.
func TestExprEmptyLists(t *testing.T) {
	for _, s := range samples() {
		x := s.x
		if x.T == nil {
			x.T = []api.Type{}
		}
		if x.Names == nil {
			x.Names = []string{}
		}
		if x.Parts == nil {
			x.Parts = []api.Expr{}
		}
		x.At = -7
		writesExpr(t, s.text, x)
	}
}

// TestExprWithMore: P2.1, a right expression with a field too many is refused.
func TestExprWithMore(t *testing.T) {
	for _, s := range samples() {
		if s.x.Kind != api.XInt && s.x.Kind != api.XBool {
			for _, n := range []int{1, -1} {
				x := s.x
				x.N = n
				refusesExpr(t, api.ErrArg, x)
			}
		}
		if s.x.S == "" && s.x.Kind != api.XText {
			for _, said := range []string{"a", "A", " "} {
				x := s.x
				x.S = said
				refusesExpr(t, api.ErrArg, x)
			}
		}
		x := s.x
		x.T = append(slices.Clone(s.x.T), integer)
		refusesExpr(t, api.ErrArg, x)
		x = s.x
		x.Names = append(slices.Clone(s.x.Names), "z")
		refusesExpr(t, api.ErrArg, x)
		if s.x.Kind != api.XCall && s.x.Kind != api.XApply {
			x = s.x
			x.Parts = append(slices.Clone(s.x.Parts), variable("v"))
			refusesExpr(t, api.ErrArg, x)
		}
	}
}

// TestExprWithLess: P2.1, a right expression with a field too few is refused, as is a kind that is none.
func TestExprWithLess(t *testing.T) {
	for _, s := range samples() {
		for _, kind := range []int{0, -1, 22, math.MaxInt, math.MinInt} {
			x := s.x
			x.Kind = kind
			refusesExpr(t, api.ErrArg, x)
		}
		if s.x.S != "" && s.x.Kind != api.XText {
			x := s.x
			x.S = ""
			refusesExpr(t, api.ErrArg, x)
		}
		if len(s.x.T) > 0 {
			x := s.x
			x.T = nil
			refusesExpr(t, api.ErrArg, x)
		}
		if len(s.x.Names) > 0 {
			x := s.x
			x.Names = x.Names[1:]
			refusesExpr(t, api.ErrArg, x)
			x.Names, x.Parts = s.x.Names, s.x.Parts[1:]
			refusesExpr(t, api.ErrArg, x)
		}
		if len(s.x.Parts) > 0 && s.x.Kind != api.XRec && s.x.Kind != api.XNew {
			x := s.x
			x.Parts = nil
			refusesExpr(t, api.ErrArg, x)
		}
		if len(s.x.Parts) == 2 && s.level < 6 {
			x := s.x
			x.Parts = x.Parts[:1]
			refusesExpr(t, api.ErrArg, x)
		}
	}
}

// TestExprWrongFields: P2.1, numbers, names, types and texts that may not stand in their fields.
func TestExprWrongFields(t *testing.T) {
	x := variable("x")
	for _, n := range []int{2, -1, math.MaxInt, math.MinInt} {
		refusesExpr(t, api.ErrArg, api.Expr{Kind: api.XBool, N: n})
	}
	refusesExpr(t, api.ErrArg, number(math.MinInt))
	for _, s := range notNames() {
		refusesExpr(t, api.ErrArg, variable(s))
		refusesExpr(t, api.ErrArg, said(api.XField, s, x))
		refusesExpr(t, api.ErrArg, said(api.XCall, s, x))
		for _, kind := range []int{api.XRec, api.XNew} {
			y := literal(kind, x)
			y.Names = []string{s}
			refusesExpr(t, api.ErrArg, y)
		}
	}
	for _, s := range notTypeNames() {
		refusesExpr(t, api.ErrArg, said(api.XRec, s))
		refusesExpr(t, api.ErrArg, said(api.XNew, s))
	}
	for _, kind := range []int{api.XRec, api.XNew} {
		y := api.Expr{Kind: kind, S: "P", Names: []string{"a", "b", "a"}, Parts: []api.Expr{x, x, x}}
		refusesExpr(t, api.ErrArg, y)
		y.Names = []string{"a", "b", "b"}
		refusesExpr(t, api.ErrArg, y)
	}
	for _, wrong := range []api.Type{{}, named("a"), function(), nested(api.MaxNest, integer, pointer)} {
		refusesExpr(t, api.ErrArg, typed(api.XNil, wrong))
		refusesExpr(t, api.ErrArg, typed(api.XTo, wrong, x))
	}
}

// TestExprTextBytes: P2.1, of texts just the bytes 10 and 32 to 126.
func TestExprTextBytes(t *testing.T) {
	for b := range 256 {
		x := said(api.XText, "a"+string([]byte{byte(b)}))
		_, e := syntax.Expr(x)
		if right := b == 10 || 32 <= b && b <= 126; right != (e == api.OK) || !right && e != api.ErrArg {
			t.Error(b, e)
		}
	}
}

// TestExprParts: P2.1, a wrong part is refused wherever it stands, however deep.
func TestExprParts(t *testing.T) {
	for _, wrong := range []api.Expr{{}, number(-1), variable("A"), expr(api.XAdd, number(1))} {
		for _, p := range places() {
			refusesExpr(t, api.ErrArg, p.with(wrong))
			for _, q := range places() {
				refusesExpr(t, api.ErrArg, q.with(p.with(wrong)))
			}
		}
	}
}

// deeper: is the part at p's place one deeper than the whole? Of a first part it isn't.
func deeper(p place) bool { return !strings.HasPrefix(p.text, "#") }

// TestExprNest: P2.1 around MaxNest: at each place that is deeper, and chains of first parts, which have no depth.
func TestExprNest(t *testing.T) {
	for _, p := range places() {
		x := number(1)
		for range api.MaxNest - 1 {
			x = p.with(x)
		}
		if _, e := syntax.Expr(x); e != api.OK {
			t.Error(p.text, e)
		}
		if deeper(p) {
			refusesExpr(t, api.ErrArg, p.with(x))
			continue
		}
		for range 5 * api.MaxNest {
			x = p.with(x)
		}
		if _, e := syntax.Expr(x); e != api.OK {
			t.Error(p.text, e)
		}
	}
}

// TestExprNestMixed: P2.1, the depth is the deepest of all: a first part is as deep as the whole, and what stands in it deeper.
func TestExprNestMixed(t *testing.T) {
	deep := number(1)
	for range api.MaxNest - 1 {
		deep = expr(api.XNeg, deep)
	}
	for _, p := range places() {
		_, e := syntax.Expr(p.with(deep))
		if deeper(p) != (e == api.ErrArg) || !deeper(p) && e != api.OK {
			t.Error(p.text, e)
		}
	}
	most := nested(api.MaxNest-1, integer, pointer)
	x := typed(api.XNil, most)
	for range api.MaxNest - 1 {
		x = expr(api.XNot, x)
	}
	if _, e := syntax.Expr(x); e != api.OK {
		t.Error("types have a depth of their own", e)
	}
	refusesExpr(t, api.ErrArg, typed(api.XNil, pointer(most)))
}

// TestExprOrder: P2.1, ErrArg ahead of ErrLong ahead of ErrMany, and the edges of both.
func TestExprOrder(t *testing.T) {
	text := func(n int) api.Expr { return said(api.XText, strings.Repeat("a", n)) }
	writesExpr(t, `"`+strings.Repeat("a", api.MaxText-2)+`"`, text(api.MaxText-2))
	refusesExpr(t, api.ErrLong, text(api.MaxText-1))
	refusesExpr(t, api.ErrLong, said(api.XText, strings.Repeat("\n", api.MaxText/2)))
	refusesExpr(t, api.ErrArg, said(api.XText, strings.Repeat("a", api.MaxText)+"\t"))
	sum := func(n int, x api.Expr) api.Expr {
		for range n {
			x = expr(api.XAdd, x, number(1))
		}
		return x
	}
	half := api.MaxItems/2 - 1
	if s, e := syntax.Expr(sum(half, expr(api.XNeg, number(1)))); e != api.OK || len(s) != 2*api.MaxItems-1 {
		t.Error(e, len(s))
	}
	refusesExpr(t, api.ErrMany, sum(half+1, number(1)))
	refusesExpr(t, api.ErrMany, sum(api.MaxText/4-1, expr(api.XNeg, number(1))))
	refusesExpr(t, api.ErrMany, sum(api.MaxText/4-1, expr(api.XNeg, number(10))))
	refusesExpr(t, api.ErrLong, sum(api.MaxText/4-1, expr(api.XNeg, number(100))))
	refusesExpr(t, api.ErrLong, sum(api.MaxText-2, number(1)))
	refusesExpr(t, api.ErrArg, sum(api.MaxText-2, number(-1)))
	refusesExpr(t, api.ErrArg, expr(api.XAdd, sum(api.MaxText-2, number(1)), number(-1)))
}
