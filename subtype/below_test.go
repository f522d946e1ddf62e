package subtype_test

import "testing"

// TestTop: P8.1, everything is below an interface without methods, and nothing else is above all.
func TestTop(t *testing.T) {
	src := "type A = {x int;}; method A.m() int {} type I = interface {m() int;}; type T = interface {}; type P = *P; type N = {next *N;};"
	for _, a := range []string{"int", "bool", "text", "*int", "**A", "A", "*A", "I", "*I", "T", "*T", "fn() A", "fn(int) T", "{}", "{a T;}", "{embed i I;}", "P", "N", "*N"} {
		holds(t, src, a+" < T", a+" < interface {}", "fn(T) "+a+" < fn("+a+") T", a+" < "+a)
	}
	fails(t, src, "T < int", "T < A", "T < I", "T < *T", "T < P", "T < N", "T < {}", "T < fn() T")
}

// TestMethods: P8.1, rule 1: where the method is found, and where it isn't.
func TestMethods(t *testing.T) {
	src := "type A = {x int;}; method A.m() int {} type I = interface {m() int;}; type B = {embed a A;}; type C = {embed b *B;}; type D = {embed i I; x int;}; type E = {embed d D;}; "
	holds(t, src, "A < I", "*A < I", "B < I", "*B < I", "C < I", "*C < I", "D < I", "*D < I", "E < I", "{embed a A;} < I", "{embed a *A;} < I", "*{embed a *A; m_ int;} < I", "{embed i I;} < I",
		"interface {m() int; n() int;} < I", "{embed i interface {n() int; m() int;};} < I", "{embed e E; embed c {embed q C;};} < I")
	fails(t, src, "**A < I", "***A < I", "*I < I", "**I < I", "*I < *E", "**D < I", "int < I", "fn() I < I", "{x int;} < I", "interface {} < I", "interface {n() int;} < I",
		"A < interface {n() int;}", "A < interface {m() int; n() int;}", "{a A;} < I", "*{i I;} < I")
	// a field of the name: at depth 0, at the same depth, hiding, as an embedded field, a function even; and deeper than the method
	fails(t, src, "{m int;} < I", "{m fn() int;} < I", "{embed a A; m fn() int;} < I", "{embed m A;} < I", "{embed a A; embed b {m int;};} < I", "A < interface {x() int;}", "{embed b {embed a A; m int;};} < I")
	holds(t, src, "{embed a A; embed b {embed c {m int;};};} < I", "{embed b B; embed c {embed c {embed d {m int;};};};} < I")
	// ambiguous: by two records, by one record twice, by an interface and a record; and hidden by a method
	fails(t, src, "{embed a A; embed b A;} < I", "{embed a A; embed b *A;} < I", "{embed a A; embed i I;} < I", "{embed b B; embed d D;} < I", "{embed i I; embed j interface {m() bool;};} < I")
	holds(t, src, "{embed a A; embed b B;} < I", "{embed i I; embed d D;} < I")
}

// TestSignatures: P8.1, rule 1: of the method that is found the signature must be below.
func TestSignatures(t *testing.T) {
	src := "type A = {}; method A.m(i I) A {} type I = interface {m(A) I;}; type T = interface {};"
	holds(t, src, "A < I", "*A < I", "A < interface {m(I) A;}", "A < interface {m(A) A;}", "A < interface {m(A) T;}", "I < interface {m(A) T;}", "{embed a A;} < I", "interface {m(T) A;} < I", "interface {m(I) I;} < I")
	fails(t, src, "A < interface {m(T) A;}", "A < interface {m(int) A;}", "A < interface {m(I) *A;}", "A < interface {m() A;}", "A < interface {m(I, I) A;}", "A < interface {m(I) int;}",
		"I < interface {m(T) T;}", "I < interface {m(I) T;}", "I < interface {m(A) A;}", "{embed i interface {m(A) T;};} < I", "interface {m(A) T;} < I", "interface {m(int) A;} < I")
}

// TestRecords: P8.1, rule 2 of records.
func TestRecords(t *testing.T) {
	src := "type A = {x int;}; method A.m() int {} type B = {x int;}; method B.m() int {} type C = {x int;}; type I = interface {m() int;}; type G = {x A; y I;}; method G.g() int {} type H = {x A; y A;}; method H.g() int {}"
	holds(t, src, "{a A; b I;} < {b I; a A;}", "{a A; b I;} < {b I; a I;}", "{b *A; a fn(I) A;} < {a fn(A) I; b *I;}", "C < {x int;}", "{x int;} < C", "{} < {}", "{a {b {c A;};};} < {a {b {c I;};};}", "G < G", "H < H")
	fails(t, src, "{a I;} < {a A;}", "{a A; b I;} < {a I; b A;}", "{a I; b A;} < {a A; b I;}", "A < B", "B < A", "A < C", "C < A", "G < H", "H < G", "H < {x A; y I;}", "{a A;} < {b A;}", "{a A;} < {a A; b A;}", "{a A; b A;} < {a A;}",
		"{a {b {c I;};};} < {a {b {c A;};};}", "*{a I;} < *{a A;}")
	// an embedded field both ways: nothing but the same will do
	holds(t, src, "{embed a A; b A;} < {embed a A; b I;}", "{embed a I;} < {embed a I;}", "{embed a {x A;};} < {embed a {x A;};}", "{embed a interface {m() int;};} < {embed a I;}")
	fails(t, src, "{embed a A;} < {embed a I;}", "{embed a I;} < {embed a A;}", "{embed a *A;} < {embed a A;}", "{embed a A;} < {a A;}", "{a A;} < {embed a A;}", "{embed a {x A;};} < {embed a {x I;};}",
		"{embed a {x I;};} < {embed a {x A;};}", "{embed a *{x A;};} < {embed a *{x I;};}", "{embed a interface {m() A;};} < {embed a interface {m() I;};}", "{embed a A; embed b A;} < {embed a A; b A;}")
}

// TestFunctions: P8.1, rule 2 of functions and pointers: parameters the other way round, all else the same way.
func TestFunctions(t *testing.T) {
	src := "type A = {}; method A.m() int {} type I = interface {m() int;}; type T = interface {};"
	holds(t, src, "fn(I) A < fn(A) I", "fn(I) I < fn(A) I", "fn(A) A < fn(A) I", "fn(T, I, A) A < fn(I, A, A) T", "fn() A < fn() T", "fn(fn(A) I) A < fn(fn(I) A) A", "*A < *I", "**A < **T", "*fn(I) A < *fn(A) I", "fn(*I) *A < fn(*A) *I",
		"fn({a I;}) {a A;} < fn({a A;}) {a I;}", "fn(fn(fn(I) A) A) A < fn(fn(fn(A) A) A) A")
	fails(t, src, "fn(A) A < fn(I) I", "fn(A) I < fn(I) I", "fn(A) I < fn(A) A", "fn(I) A < fn(A) *A", "fn(T, I) A < fn(A, T) A", "fn(I, T) A < fn(T, A) A", "fn(I) A < fn() A", "fn() A < fn(A) A", "fn(A) A < fn(A, A) A", "fn(fn(I) A) A < fn(fn(A) I) A", "*I < *A", "**T < **A",
		"*A < **A", "**A < *A", "*A < A", "A < *A", "fn(*A) A < fn(*I) A", "fn({a A;}) A < fn({a I;}) A", "fn(fn(fn(A) A) A) A < fn(fn(fn(I) A) A) A")
}

// TestBack: P8.1 (C1), definitions that come back to themselves: a pair that is its own premise is below, unless another
// premise fails.
func TestBack(t *testing.T) {
	tail := "type A = {}; method A.m() int {} type I = interface {m() int;}; "
	for _, x := range []struct{ src, up, down string }{ // up is below, down is not
		{"type P = {next *P; v A;}; type Q = {next *Q; v I;}; ", "P < Q", "Q < P"},                                                         // by pointers
		{"type P = {next P; v A;}; type Q = {next Q; v I;}; ", "P < Q", "Q < P"},                                                           // by fields
		{"type P = fn(P, I) A; type Q = fn(Q, A) I; ", "P < P", "P < Q"},                                                                   // by parameters: P < Q asks Q < P
		{"type P = fn(fn(P) A) A; type Q = fn(fn(Q) A) I; ", "P < Q", "Q < P"},                                                             // by parameters of parameters
		{"type P = fn() fn(I) P; type Q = fn() fn(A) Q; ", "P < Q", "Q < P"},                                                               // by results
		{"type P = interface {f() P; g() A;}; type Q = interface {f() Q; g() I;}; ", "P < Q", "Q < P"},                                     // by signatures' results
		{"type P = interface {f(Q) P; g() A;}; type Q = interface {f(P) Q; g() I;}; ", "P < Q", "Q < P"},                                   // and parameters, which are turned twice
		{"type P = interface {f(P) int; g() A;}; type Q = interface {f(Q) int; g() I;}; ", "P < P", "P < Q"},                               // and parameters: P < Q asks Q < P
		{"type P = interface {f(fn(P) int) int; g() A;}; type Q = interface {f(fn(Q) int) int; g() I;}; ", "P < Q", "Q < P"},               // and parameters of parameters
		{"type P = {}; method P.f() P {} method P.g() A {} type Q = interface {f() Q; g() I;}; ", "P < Q", "Q < P"},                        // by a method that is declared
		{"type P = {embed r R;}; type R = {}; method R.f() P {} method R.g() A {} type Q = interface {f() Q; g() I;}; ", "P < Q", "Q < P"}, // by one that is promoted
		{"type P = {}; method P.f() *P {} method P.g() A {} type Q = interface {f() Q; g() I;}; ", "*P < Q", "Q < *P"},                     // by a pointer's method
		{"type P = {a Q; v A;}; type Q = {a P; v I;}; ", "P < P", "P < Q"},                                                                 // P < Q asks Q < P
		{"type P = {a R; v A;}; type R = {a P; v I;}; type Q = {a Q; v I;}; ", "P < Q", "Q < P"},                                           // by two pairs in a ring
		{"type P = {embed next *P; v A;}; type Q = {embed next *Q; v I;}; ", "P < P", "P < Q"},                                             // an embedded one asks it both ways
		{"type P = {next *P; v int;}; type Q = {v int; next *R;}; type R = {next *Q; v int;}; type S = {next *S; v bool;}; ", "P < Q", "P < S"},
	} {
		holds(t, x.src+tail, x.up)
		fails(t, x.src+tail, x.down)
	}
	holds(t, "type P = *P; type Q = **Q; type F = fn(F) F; type G = fn(G) fn(G) G;", "P < Q", "Q < P", "F < F", "F < G", "G < F") // one class each
	fails(t, "type P = *P; type Q = {p *Q;}; type F = fn(F) F; type G = fn(G, G) G; type R = {embed r *R;}; type S = {s *S;};", "P < Q", "Q < P", "F < G", "G < F", "R < S", "S < R", "P < F", "*R < *S")
}

// TestBehind: P8.1 (C1), what holds on its own way, but has met a pair that fails by another one; and the other way round.
func TestBehind(t *testing.T) {
	// (P, Q) has the premises (X, Y), which comes back to (P, Q), and (int, bool): both fail; (U, V), met by both, holds
	src := "type P = {a X; b U; c int;}; type Q = {a Y; b V; c bool;}; type X = {p P; u U;}; type Y = {p Q; u V;}; type U = {u *U; i A;}; type V = {u *V; i I;}; type A = {}; method A.m() int {} type I = interface {m() int;}; "
	fails(t, src, "P < Q", "X < Y", "Q < P", "Y < X")
	holds(t, src, "U < V", "*U < *V")
	// a ring of three, in which the last one fails: all do, whichever is asked first
	ring := "type P = {a *Q; b int;}; type Q = {a *R; b int;}; type R = {a *P; b text;}; type X = {a *Y; b int;}; type Y = {a *Z; b int;}; type Z = {a *X; b bool;}; "
	fails(t, ring, "P < X", "Q < Y", "R < Z", "*P < *X", "Q < X", "P < Y")
	for _, first := range []string{"P < X", "Q < Y", "R < Z", "*Q < *Y", "X < P"} {
		for _, q := range asking(t, ring, first, "P < X", "Q < Y", "R < Z", "*P < *X", "*Q < *Y", "*R < *Z") {
			if ok, _ := q.Below(q.a, q.b); ok {
				t.Error(first, q.a, q.b)
			}
		}
	}
	// the pair fails by a premise of a pair that was met before it, far behind both
	far := "type P = {a *P; b *X; z int;}; type Q = {a *Q; b *Y; z int;}; type X = {p *P; q **{e int;};}; type Y = {p *Q; q **{e bool;};}; "
	fails(t, far, "P < Q", "X < Y", "*P < *Q")
}
