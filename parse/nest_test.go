package parse_test

import (
	"strings"
	"testing"

	"coil/api"
)

// nest is a way to stand in something: what stands ahead of it and behind it, and by how much it is deeper than what it stands in.
// It is an edge, if it is one deeper and nothing ahead of it is.
type nest struct {
	ahead, behind string
	deeper        int
	edge          bool
}

func typeNests() []nest {
	return []nest{
		{"*", "", 1, true},
		{"{a ", ";}", 1, true},
		{"{a int; embed b ", "; c int;}", 1, false},
		{"fn(", ") int", 1, true},
		{"fn(int, ", ", int) int", 1, false},
		{"fn() ", "", 1, true},
		{"fn(int) ", "", 1, false},
		{"interface {a(", ") int;}", 2, false},
		{"interface {a(int, ", ") int;}", 2, false},
		{"interface {a() ", ";}", 2, false},
		{"interface {a() int; b(int) ", "; c() int;}", 2, false},
	}
}

func exprNests() []nest {
	return []nest{
		{"-", "", 1, true},
		{"not ", "", 1, true},
		{"(", ")", 1, true},
		{"a(", ")", 1, true},
		{"a(b, ", ", c)", 1, false},
		{"a.b(", ")", 1, true},
		{"a.b(c, ", ")", 1, false},
		{"P{a: ", "}", 1, true},
		{"new P{a: b, c: ", "}", 1, false},
		{"new P{a: ", ", c: b}", 1, true},
		{"(1*(", "))", 3, false},
		{"(1+(", "))", 3, false},
		{"(1-(", "))", 3, false},
		{"(1==(", "))", 3, false},
		{"(1<(", "))", 3, false},
		{"(1 and (", "))", 3, false},
		{"(1 or (", "))", 3, false},
		{"(", ") + 1", 1, true},
		{"(", ").a", 1, true},
		{"(", ")()", 1, true},
		{"(", ").a(b)", 1, true},
		{"(", ") to A", 1, true},
		{"a.b.c(d)(e) to A.f(", ").g(h) to B", 1, false},
		{"(1*2+3-4==-", ")", 3, false},
		{"(1 or 2 and 3 == 4 + 5 * -(", "))", 8, false},
		{"(1 or 2 or 3 or a(", ") or 4)", 3, false},
	}
}

func stmtNests() []nest {
	return []nest{
		{"while a {", "}", 1, true},
		{"if a {", "}", 1, true},
		{"if a {", "} else {}", 1, true},
		{"if a {} else {", "}", 1, true},
		{"b; if a {b;} else {b; ", " b;} b;", 1, false},
		{"while a {} if a {} while a {b; ", "}", 1, false},
	}
}

// nested is which by turns in one another, as many as let what stands in all of them be at most that deep, and how deep that is.
func nested(most int, which ...nest) (ahead, behind string, depth int) {
	depth = 1
	for i := 0; ; i++ {
		n := which[i%len(which)]
		if depth+n.deeper > most {
			return ahead, behind, depth
		}
		depth += n.deeper
		ahead += n.ahead
		behind = n.behind + behind
	}
}

// nestsAgree fails, unless leaf, which stands in which by turns, is read at the depth MaxNest, and refused one deeper: in one more, which is each edge of all.
func nestsAgree(t *testing.T, e entry, leaf string, all []nest, which ...nest) {
	t.Helper()
	ahead, behind, depth := nested(api.MaxNest, which...)
	for ; depth < api.MaxNest; depth++ { // one more of which would be more than one deeper
		ahead += all[0].ahead
		behind = all[0].behind + behind
	}
	if _, err := e.read(ahead + leaf + behind); err != nil {
		t.Errorf("%s %q: %v", e.rule, ahead, err)
	}
	for _, n := range all {
		if !n.edge {
			continue
		}
		deep := ahead + n.ahead
		refused(t, e, deep+leaf+n.behind+behind, len(deep), api.ErrNest)
		refused(t, e, deep+leaf, len(deep), api.ErrNest)
		refused(t, e, deep+" else", len(deep)+1, api.ErrToken)
		refused(t, e, deep, len(deep), api.ErrEnd)
	}
}

// TestNest: P3.1 around MaxNest, for each way of nesting, and for each two by turns.
func TestNest(t *testing.T) {
	for _, c := range []struct {
		rule  string
		nests []nest
		leafs []string
	}{
		{"<type>", typeNests(), []string{"int", "A", "{}", "interface {}"}},
		{"<expr>", exprNests(), []string{"1", `"a"`, "true", "x", "self", "nil A", "P{}", "new P{}", "x.a", "x()", "x.a() to A"}},
		{"<stmts>", stmtNests(), []string{"b;", "let b = c;", "b = c;", "print b;", "return b;", "if b {}", "if b {} else {}", "while b {}", "-1;", "(b);"}},
	} {
		e := entryOf(c.rule)
		for _, leaf := range c.leafs {
			for _, a := range c.nests {
				nestsAgree(t, e, leaf, c.nests, a)
			}
		}
		for _, a := range c.nests {
			for _, b := range c.nests {
				nestsAgree(t, e, c.leafs[0], c.nests, a, b)
			}
		}
	}
}

// TestNestOfLeafs: P3.1, each token that may begin what is too deep is refused as that, each other one as wrong.
func TestNestOfLeafs(t *testing.T) {
	for rule, one := range map[string]nest{"<type>": typeNests()[0], "<expr>": exprNests()[0], "<stmts>": stmtNests()[0]} {
		e := entryOf(rule)
		ahead, _, _ := nested(api.MaxNest+1, one)
		start := strings.Replace(rule, "stmts", "stmt", 1)
		for _, s := range alphabet() {
			why := api.ErrToken
			if _, ok := newChart(start).next(s); ok {
				why = api.ErrNest
			}
			if start == "<stmt>" && s == "}" { // it ends the block
				continue
			}
			refused(t, e, ahead+" "+spell(s, 0)+" ;", len(ahead)+1, why)
		}
	}
}

// TestNestOfMethods: P3.1, a method's type is one deeper than its interface; it begins behind its name.
func TestNestOfMethods(t *testing.T) {
	e := entryOf("<type>")
	stars := strings.Repeat("*", api.MaxNest-1)
	reads(t, e, stars+"interface {}", strings.Repeat("ptr(", 63)+"iface"+strings.Repeat(")", 63))
	refused(t, e, stars+"interface {abc (int) A;}", 63+15, api.ErrNest)
	refused(t, e, stars+"interface {abc () A;}", 63+15, api.ErrNest)
	refused(t, e, stars+"interface {abc", 63+14, api.ErrEnd)
	refused(t, e, stars+"interface {abc )", 63+15, api.ErrToken)
	refused(t, e, stars[1:]+"interface {abc (int) A;}", 62+16, api.ErrNest)
	refused(t, e, stars[1:]+"interface {abc () A;}", 62+18, api.ErrNest)
	refused(t, e, stars[1:]+"interface {abc ( ,", 62+17, api.ErrToken)
	refused(t, e, stars+"fn(int) A", 63+3, api.ErrNest)
	refused(t, e, stars+"fn() A", 63+5, api.ErrNest)
	refused(t, e, stars+"fn )", 63+3, api.ErrToken)
}

// TestChains: P3.1, first parts have no depth, however many they are, also where all else would be too deep.
func TestChains(t *testing.T) {
	e := entryOf("<expr>")
	ahead, behind, _ := nested(api.MaxNest, nest{"a(", ")", 1, true})
	for _, link := range []string{".b", ".b()", "()", " to A", ".b to *A", "().b"} {
		chain := "a" + strings.Repeat(link, 300)
		for _, src := range []string{chain, ahead + chain + behind} {
			if _, err := e.read(src); err != nil {
				t.Errorf("%.200q: %v", src, err)
			}
		}
	}
	within, its, _ := nested(api.MaxNest-1, nest{"a(", ")", 1, true})
	for _, link := range []string{" * 1", " + 1", " - 1", " and 1", " or 1", "(1)", ".b(1, 1)", " + 1 - 1"} {
		chain := "a" + strings.Repeat(link, 300)
		for _, src := range []string{chain, within + chain + its} {
			if _, err := e.read(src); err != nil {
				t.Errorf("%.200q: %v", src, err)
			}
		}
		at := len(ahead) + 1 + strings.Index(link, "1")
		refused(t, e, ahead+chain+behind, at, api.ErrNest)
		refused(t, e, ahead+"a"+link[:strings.Index(link, "1")], at, api.ErrEnd)
		refused(t, e, ahead+"a"+link[:strings.Index(link, "1")]+";", at, api.ErrToken)
	}
	refused(t, e, ahead+"a == 1", len(ahead)+5, api.ErrNest)
	refused(t, e, ahead+"a < 1", len(ahead)+4, api.ErrNest)
	refused(t, e, ahead+"P{a: 1}", len(ahead)+5, api.ErrNest)
	refused(t, e, ahead+"(1)", len(ahead)+1, api.ErrNest)
}

// TestNestRuns: the chapter's run of parentheses, and its edge.
func TestNestRuns(t *testing.T) {
	e := entryOf("<expr>")
	refused(t, e, strings.Repeat("(", 65), 64, api.ErrNest)
	refused(t, e, strings.Repeat("(", 64), 64, api.ErrEnd)
	refused(t, e, strings.Repeat("(", 64)+")", 64, api.ErrToken)
	refused(t, e, strings.Repeat("(", 64)+"1", 64, api.ErrNest)
	reads(t, e, strings.Repeat("(", 63)+"1"+strings.Repeat(")", 63), "int#1@63")
	refused(t, e, strings.Repeat("(", 63)+"1+2", 65, api.ErrNest)
	refused(t, e, strings.Repeat("(", 4096), 64, api.ErrNest)
	refused(t, e, strings.Repeat("-", 4096), 64, api.ErrNest)
	refused(t, entryOf("<type>"), strings.Repeat("*", 4096), 64, api.ErrNest)
	refused(t, entryOf("<stmts>"), strings.Repeat("if a{", 1000), 5*64, api.ErrNest)
}

// TestNestBySorts: P3.1, types, expressions and statements are counted each by themselves, from each code on anew.
func TestNestBySorts(t *testing.T) {
	aheadT, behindT, _ := nested(api.MaxNest, nest{"*", "", 1, true})
	aheadX, behindX, _ := nested(api.MaxNest, nest{"not ", "", 1, true})
	aheadS, behindS, _ := nested(api.MaxNest, nest{"while a {", "}", 1, true})
	typ := aheadT + "int" + behindT
	for _, x := range []string{"nil " + typ, "a to " + typ} {
		expr := aheadX + x + behindX
		for _, stmt := range []string{"let a " + typ + " = " + expr + ";", "a = " + expr + ";", expr + ";", "if " + expr + " {}", "while " + expr + " {}"} {
			stmts := aheadS + stmt + behindS
			def := "type A = " + typ + "; "
			code := "(a " + typ + ", b " + typ + ") " + typ + " {" + stmts + stmts + "} "
			for rule, src := range map[string]string{
				"<expr>": expr, "<stmts>": stmts + stmts, "<defs>": def + "method A.m" + code + def,
				"<program>": def + "method A.m" + code + "func f" + code + "main " + typ + "{" + stmts + "}",
			} {
				if _, err := entryOf(rule).read(src); err != nil {
					t.Errorf("%s %.300q: %v", rule, src, err)
				}
			}
		}
	}
}

// TestNestInCodes: P3.1, what is too deep in a program is refused in each place where a type, an expression or a statement may stand.
func TestNestInCodes(t *testing.T) {
	typ, expr, stmt := strings.Repeat("*", 64)+"int", strings.Repeat("-", 64)+"1", strings.Repeat("while a {", 64)+"b;"
	for _, c := range []struct{ rule, ahead, deep, behind string }{
		{"<expr>", "nil ", typ, ""},
		{"<expr>", "a to ", typ, ""},
		{"<stmts>", "let a ", typ, " = 1;"},
		{"<stmts>", "let a = ", expr, ";"},
		{"<stmts>", "a = ", expr, ";"},
		{"<stmts>", "print ", expr, ";"},
		{"<stmts>", "return ", expr, ";"},
		{"<stmts>", "b; ", expr, ";"},
		{"<stmts>", "if ", expr, " {}"},
		{"<stmts>", "while ", expr, " {}"},
		{"<stmts>", "b; ", stmt, strings.Repeat("}", 64)},
		{"<defs>", "type A = ", typ, ";"},
		{"<defs>", "method A.m(a ", typ, ") int {}"},
		{"<defs>", "method A.m(a int, b ", typ, ") int {}"},
		{"<defs>", "method A.m() ", typ, "{}"},
		{"<defs>", "method A.m() int {", stmt, strings.Repeat("}", 65)},
		{"<program>", "type A = ", typ, "; main int {}"},
		{"<program>", "func f(a ", typ, ") int {} main int {}"},
		{"<program>", "func f() ", typ, " {} main int {}"},
		{"<program>", "func f() int {", stmt, strings.Repeat("}", 65) + " main int {}"},
		{"<program>", "main ", typ, " {}"},
		{"<program>", "main int {", stmt, strings.Repeat("}", 65)},
		{"<program>", "main int {b; ", expr, ";}"},
	} {
		leaf := strings.TrimLeft(c.deep, "*-")
		if c.deep == stmt {
			leaf = "b;"
		}
		refused(t, entryOf(c.rule), c.ahead+c.deep+c.behind, len(c.ahead)+len(c.deep)-len(leaf), api.ErrNest)
	}
}
