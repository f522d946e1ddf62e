package lower_test

import (
	"strconv"
	"strings"
	"testing"

	"coil/api"
	"coil/lower"
)

// TestLen: P13.3, Len of programs with each kind of expression and statement, and with many of one kind and no others.
func TestLen(t *testing.T) {
	rows := strings.Split("print 1;|print true;|print \"a\";|print f;|print a;|print nil *A;|print A{x: 1};|print new A{x: 1};|print a.x;|print e.x;|print h.h.h.j;|a.m();|pa.n(i);|e.n(e);|i.m();|g.n(g);|pf.m();|fn0(i);|print i to T;|print t to A;|"+
		"print -1;|print not true;|print 1 * 2;|print 1 + 2;|print \"a\" + \"b\";|print 1 - 2;|print 1 == 2;|print 1 < 2;|print true and false;|print true or false;|"+
		"let v = 1;|let v I = a;|a = A{x: 1};|if true { }|if true { print 1; } else { print 2; }|if false { } else { print 1; }|while false { }|while false { print 1; }|return 1;|1;|print - - - - 1;|print not not true;|print t to T to T to T to T;|print h.h.h.h.h.h.h;|j.n(i).n(i).n(i).n(i);|print (V{});", "|")
	for _, stmts := range rows {
		for _, n := range []int{1, 9} {
			text := stmts
			if n > 1 {
				text = strings.Repeat("if true { "+stmts+" } ", n)
			}
			c := made(t, "type V = {}; "+function(text))
			bounded(t, text, c, 4+2)
		}
	}
}

// TestLeast: P13.3, one expression or statement more has at least one instruction of its own.
func TestLeast(t *testing.T) {
	for less, more := range map[string]string{
		"print t;": "print t to T;", "print i;": "print i to I;", "print 1;": "print -1;", "print true;": "print true and true;", "print false;": "print not false;",
		"print h;": "print h.h;", "i;": "i.m();", "a;": "a.m();", "fn0;": "fn0(i);", "": "if true { }", "a = a;": "a = a; a = a;", "if true { }": "if true { 1; }", "while true { }": "while true { return 1; }", "let v = 1;": "let v = 1; if true { let w = 2; }",
	} {
		a, b := made(t, function(less)), made(t, function(more))
		if added, size := b.Len()-a.Len(), b.Checked().Size()-a.Checked().Size(); size < 1 || added < size || added > 64*size {
			t.Errorf("%s, %s: %d instructions for %d", less, more, added, size)
		}
	}
}

// TestSmallest: P13.3, the smallest programs.
func TestSmallest(t *testing.T) {
	c := made(t, "main int { return 1; }")
	bounded(t, "main", c, 1)
	if c.Checked().Size() != 2 {
		t.Error(c.Checked().Size())
	}
	many := "type A = {}; "
	for i := range 99 {
		many += "method A.m" + strconv.Itoa(i) + "() int { return 1; } func f" + strconv.Itoa(i) + "() int { return 1; } "
	}
	bounded(t, "many", made(t, many+"main int { return 1; }"), 199)
}

// chain has records, each embedded in the next one, by pointers every second time, if these are asked for: the first one has the
// field x and the method m, and embeds an interface of k; f takes the last one, and returns x.
func chain(t *testing.T, length int, pointers bool, x string) api.Program {
	p := parsed(t, "type I = interface {k() int;}; type A0 = {x int; embed i I;}; method A0.m() int { return 1; } func f(a A0) int { return "+x+"; } main int { return 0; }")
	name := func(i int) api.Type { return api.Type{Kind: api.TName, Name: "A" + strconv.Itoa(i)} }
	for i := range length {
		part := name(i)
		if pointers && i%2 == 0 {
			part = api.Type{Kind: api.TPtr, Parts: []api.Type{part}}
		}
		p.Defs = append(p.Defs, api.Def{Name: name(i + 1).Name, T: api.Type{Kind: api.TRec, Names: []string{"e"}, Embeds: []bool{true}, Parts: []api.Type{part}}})
	}
	p.Funcs[0].Params[0].T = name(length)
	return p
}

// TestFar: P13.2 and P13.3, members that stand very deep have no more instructions than others.
func TestFar(t *testing.T) {
	for _, pointers := range []bool{false, true} {
		length := 1000
		if pointers {
			length = 660
		}
		for x, n := range map[string]int{"a.x": 0, "a.m()": 0, "a.k()": 1} {
			p := chain(t, length, pointers, x)
			c := holds(t, x, p)
			if 64*(c.Checked().Size()+3) >= length {
				t.Error(x, "too many instructions may be", length)
			}
			if l := c.Sites(); len(l) != n || n == 1 && l[0] != (lower.Site{Iface: id(t, c, "I")}) {
				t.Error(x, l)
			}
		}
	}
}
