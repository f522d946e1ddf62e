package check_test

import (
	"strings"
	"testing"

	"coil/canon"
	"coil/graph"
	"coil/parse"
)

// whole has each kind of expression and statement. The marks number the expressions in the order in which they are told.
const whole = "type I = interface {m() int;}; type A = {x int;}; method A.m() int { return #2#self#1#.x; } " +
	"func f(i I) int { let a = #4#i #3#to A; " +
	"if #8#a#7#.x #6#== #9#-#10#1 #5#and #11#not #12#false { print #13#\"a\"; } else { a = #14#A{x: #16#i#15#.m()}; } " +
	"while #19#\"b\" #18#< #20#\"c\" #17#or #21#true { return #22#1; } " +
	"#24#f#23#(#25#new A{x: #28#2 #27#* #29#3 #26#- #30#4}); return #32#5 #31#+ #33#6; } " +
	"main text { let p *I = #34#nil *A; let q I = #36#A{x: #37#7} #35#to I; return #39#\"d\" #38#+ #40#\"e\"; }"

// told is what Types tells of it: of each expression its kind and its type.
const told = "field int, self A, to A, var I, and bool, eq bool, field int, var A, neg int, int int, not bool, bool bool, text text, rec A, call int, var I, " +
	"or bool, less bool, text text, text text, bool bool, int int, apply int, var fn(I) int, new *A, sub int, mul int, int int, int int, int int, add int, int int, int int, " +
	"nil *A, to I, rec A, int int, add text, text text, text text"

func kinds() []string {
	return strings.Fields("none int text bool var self nil rec new field call apply to neg not mul add sub eq less and or")
}

// TestTypes: P9.2, Types: places, kinds and classes, an expression ahead of its parts; and Casts, Result, Size.
func TestTypes(t *testing.T) {
	c := accepted(t, unmarked(whole, 0))
	l, rows := c.Types(), strings.Split(told, ", ")
	if len(l) != 40 || len(rows) != 40 {
		t.Fatal(len(l), len(rows))
	}
	for i, x := range l {
		kind, typ, _ := strings.Cut(rows[i], " ")
		if _, at := marked(unmarked(whole, i+1)); x.Where() != at || kinds()[x.Kind] != kind || x.Class != id(t, c, typ) {
			t.Errorf("%d: %+v %s, not %d %s", i, x, kinds()[x.Kind], at, rows[i])
		}
	}
	if up, down := c.Casts(); up != 1 || down != 1 || c.Result() != id(t, c, "text") || c.Size() != 40+12 {
		t.Error(up, down, c.Result(), c.Size())
	}
}

// TestSize: P9.2, Size: expressions and statements, those in blocks too.
func TestSize(t *testing.T) {
	for src, size := range map[string]int{
		"main int { return 1; }": 2, "main int { return 1 + 2; }": 4, "main int { if true { } return 1; }": 4, "main int { if true { print 1; } else { print 2; print 3; } return 1; }": 10,
		"main int { while true { while false { 1; } } return - - 1; }": 10, "func f(a int) int { return a; } main int { return f(1); }": 2 + 4, "type A = {}; method A.m() int { return 1; } main A { return A{}; }": 4,
	} {
		if c := accepted(t, src); c.Size() != size {
			t.Errorf("%s: %d", src, c.Size())
		}
	}
}

// TestResult: P9.2, Result.
func TestResult(t *testing.T) {
	for typ, x := range map[string]string{"int": "1", "text": `"a"`, "bool": "true", "A": "A{x: 1}", "I": "A{x: 1}", "*A": "nil *A", "fn() int": "g", "P": "nil *L", "T": "1"} {
		c := accepted(t, set+"func g() int { return 1; } main "+typ+" { return "+x+"; }")
		if c.Result() != id(t, c, typ) {
			t.Error(typ, c.Result())
		}
	}
}

// laid are the classes of definitions to which these types were added, one after the other.
func laid(t *testing.T, src string, types ...string) *canon.Classes {
	t.Helper()
	defs, methods, err := parse.Defs(src)
	if err != nil {
		t.Fatal(err)
	}
	g, err := graph.New(defs, methods...)
	if err != nil {
		t.Fatal(err)
	}
	for _, s := range types {
		x, err := parse.Type(s)
		if err != nil {
			t.Fatal(s, err)
		}
		if _, err := g.Add(x); err != nil {
			t.Fatal(s, err)
		}
	}
	return canon.New(g)
}

// TestClasses: P9.2, Classes: those of the definitions, and behind them those of the types that are named, in their order.
func TestClasses(t *testing.T) {
	for _, x := range []struct {
		defs, rest string
		types      []string
	}{
		{"", "main int { return 1; }", []string{"int", "int", "bool", "text"}},
		{"", "main text { return \"\"; }", []string{"text", "int", "bool", "text"}},
		{"", "main bool { let a *text = nil *text; return true; }", []string{"bool", "*text", "*text", "int", "bool", "text"}},
		{"type A = {x int;}; method A.m() int { let a **A = nil **A; return 1; }",
			"func f(a ***A, b bool) *bool { print new A{x: 1} to interface {} to *fn(A) int; while b to interface {} to bool { let c **text = nil **text; } return nil *bool; } main text { print nil *fn() text; return \"\"; }",
			[]string{"fn(***A, bool) *bool", "text", "**A", "**A", "*fn(A) int", "interface {}", "*A", "bool", "interface {}", "**text", "**text", "*bool", "*fn() text", "int", "bool", "text"}},
	} {
		c := accepted(t, x.defs+" "+x.rest)
		want := laid(t, x.defs, x.types...)
		if got := c.Classes(); got.Text() != want.Text() || got.Graph().Len() != want.Graph().Len() {
			t.Errorf("%s\n%s, not\n%s", x.rest, got.Text(), want.Text())
		}
	}
	if c := accepted(t, "main int { return 1; }"); c.Classes().Text() != "0 int\n1 bool\n2 text\n" {
		t.Error(c.Classes().Text())
	}
}
