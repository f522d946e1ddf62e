package lower_test

import (
	"strings"
	"testing"
)

// TestByInterface: P13.2, calls on interfaces: the method's number is the one among the names in the order of their bytes.
func TestByInterface(t *testing.T) {
	stmtSites(t, "i.m();", "I 0")
	stmtSites(t, "j.k();", "J 0")
	stmtSites(t, "j.m();", "J 1")
	stmtSites(t, "j.n(i);", "J 2")
	stmtSites(t, "print j.m(); let v = j.n(j); let w I = j; w.m();", "J 1", "J 2", "I 0")
	stmtSites(t, "(j to I).m(); (t to I).m(); (t to J).m(); (i to J).n(a);", "I 0", "I 0", "J 1", "J 2")
	stmtSites(t, "fn0(i).k(); fn0(i).m();", "J 0", "J 1")
}

// TestOrderOfNames: P13.2, names are held against one another byte by byte.
func TestOrderOfNames(t *testing.T) {
	const names = "type Z = interface {z() int; ab() int; a_() int; a() int; aZ() int; a9() int; aa() int; b() int; zA() int;}; "
	for name, n := range map[string]string{"a": "0", "a9": "1", "aZ": "2", "a_": "3", "aa": "4", "ab": "5", "b": "6", "z": "7", "zA": "8"} {
		src := names + "func f(v Z) int { return v." + name + "(); } main int { return 0; }"
		sites(t, src, made(t, src), "Z "+n)
	}
}

// TestByField: P13.2, calls by fields of an interface's type, embedded or not.
func TestByField(t *testing.T) {
	stmtSites(t, "h.i.m();", "I 0")
	stmtSites(t, "h.j.m();", "J 1")
	stmtSites(t, "h.h.h.j.n(h.i);", "J 2")
	stmtSites(t, "ph.h.i.m();", "I 0")
	stmtSites(t, "d.i.m(); g.j.k(); ff.d.i.m(); ff.i.m(); k.i.m();", "I 0", "J 0", "I 0", "I 0", "I 0")
}

// TestEmbedded: P13.2, calls by embedded interfaces: the class is the interface's, not that of what embeds it.
func TestEmbedded(t *testing.T) {
	stmtSites(t, "d.m();", "I 0")
	stmtSites(t, "pd.m();", "I 0")
	stmtSites(t, "ff.m();", "I 0")
	stmtSites(t, "pf.m();", "I 0")
	stmtSites(t, "ff.d.m();", "I 0")
	stmtSites(t, "g.k(); g.m(); g.n(g);", "J 0", "J 1", "J 2")
	stmtSites(t, "pg.k(); pg.m(); pg.n(pg);", "J 0", "J 1", "J 2")
	stmtSites(t, "(D{i: g}).m(); (new G{w: 1, j: a}).n(a);", "I 0", "J 2")
}

// TestEmbeddedTypes: P13.2, interfaces that have no name, that stand deep, and some that are one class.
func TestEmbeddedTypes(t *testing.T) {
	const src = "type I = interface {b() int; a() I;}; type J = interface {a() J; b() int;}; type P = {embed q *{embed r {x int; embed s interface {z() int; y() I;};}; embed c *P;};}; type O = {embed p P; embed i I;}; " +
		"func f(i I, j J, p P, o O, q *P) int { return "
	for x, want := range map[string]string{
		"i.b()": "I 1", "j.b()": "I 1", "j.a().a().b()": "I 1, J 0, I 0",
		"p.z()": "interface {y() I; z() int;} 1", "q.z()": "interface {y() I; z() int;} 1", "p.y().b()": "I 1, interface {z() int; y() I;} 0",
		"o.z()": "interface {y() I; z() int;} 1", "o.b()": "J 1", "o.a().b()": "J 1, I 0", "o.p.q.r.s.z()": "interface {y() I; z() int;} 1", "q.q.c.c.c.r.z()": "interface {y() I; z() int;} 1",
	} {
		text := src + x + "; } main int { return 0; }"
		sites(t, x, made(t, text), strings.Split(want, ", ")...)
	}
}

// TestNoSite: P13.2, calls on records and pointers, also of promoted methods, and calls of functions have none; nor have
// fields.
func TestNoSite(t *testing.T) {
	stmtSites(t, "a.m(); a.k(); a.n(i); pa.m(); pa.n(j); b.m(); b.n(b); c.m(); pc.m(); e.k(); e.n(pa); b.a.m(); c.a.m(); e.c.a.m(); k.m(); k.a.m();")
	stmtSites(t, "(A{x: 1}).m(); (new A{x: 1}).m(); (nil *A).m(); (t to A).m(); (i to *A).m(); (t to E).n(i);")
	stmtSites(t, "fn0(i); f(i, j, t, a, b, c, d, e, g, h, k, ff, pa, pc, pd, pg, ph, pf, fn0); a.x; h.i; ff.i; d.i; pg.j; h.h.j;")
	stmtSites(t, "let v A = a; let w I = v; v.m(); if true { let u = w to A; u.m(); }")
	sites(t, "", made(t, "main int { return 1; }"))
}

// TestOrder: P13.2, sites come in the order in which expressions are told: an expression ahead of its parts, these from the
// left.
func TestOrder(t *testing.T) {
	stmtSites(t, "j.n(i).n(j).k();", "J 0", "J 2", "J 2")
	stmtSites(t, "j.n(j.n(g)).m();", "J 1", "J 2", "J 2")
	stmtSites(t, "g.n(j.n(d).n(i)).n(h.j.n(a));", "J 2", "J 2", "J 2", "J 2", "J 2")
	stmtSites(t, "print (D{i: j.n(i)}).m() + j.m() * d.m();", "I 0", "J 2", "J 1", "I 0")
	stmtSites(t, "a.n(j.n(a.n(i)).n(j)).k();", "J 0", "J 2", "J 2")
	stmtSites(t, "a.n(j.n(a.n(d).n(j))).m();", "J 1", "J 2", "J 2")
	stmtSites(t, "fn0(fn0(j.n(i)).n(h.i)).k();", "J 0", "J 2", "J 2")
	stmtSites(t, "print H{h: new H{j: j.n(i), i: g, h: ph}, i: d, j: g.n(j.n(d))} to T;", "J 2", "J 2", "J 2")
	stmtSites(t, "print not (i.m() == j.m()) and j.k() < (\"\" + g.k()) or - d.m() < 1;", "I 0", "J 1", "J 0", "J 0", "I 0")
}

// TestStatements: P13.2, all statements have sites, an expression ahead of the blocks behind it.
func TestStatements(t *testing.T) {
	stmtSites(t, "let v = j.k(); v = g.k(); print d.m(); return j.m();", "J 0", "J 0", "I 0", "J 1")
	stmtSites(t, "if i.m() == 1 { j.k(); if j.m() == 2 { g.n(i); } } else { while j.k() == \"\" { d.m(); } j.m(); } i.m();", "I 0", "J 0", "J 1", "J 2", "J 0", "I 0", "J 1", "I 0")
	stmtSites(t, "return 1; return j.m();", "J 1")
	stmtSites(t, "while false { } if false { i.m(); } if true or j.m() == 1 { }", "I 0", "J 1")
}

// TestBodies: P13.2, bodies of methods come first, then those of functions, the main one's last, each in their order.
func TestBodies(t *testing.T) {
	const src = "func g(j J) int { return j.m(); } type I = interface {m() int;}; type J = interface {m() int; a() J; n() text;}; " +
		"method B.o() int { return self.i.m(); } func f(d D) int { return d.m(); } type B = {i I; j J;}; method A.a() J { return self.b.j.a(); } type A = {b B;}; method B.a() J { return self.j; } " +
		"type D = {embed i I;}; func h(d {embed j J;}) text { return d.n(); } type E = {embed j J;}; main text { return B{j: nil *E, i: nil *E}.a().a().n(); }"
	sites(t, src, made(t, src), "I 0", "J 0", "J 1", "I 0", "J 2", "J 2", "J 0")
}
