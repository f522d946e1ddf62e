package subtype_test

import "testing"

// TestWhyNone: P8.2, no way of a pair that is below.
func TestWhyNone(t *testing.T) {
	for _, q := range asking(t, runs, "J < I", "A < I", "A < J", "J < K", "A < A", "int < interface {}", "*A < *J", "fn(I) A < fn(J) I", "{embed a A;} < {embed a A;}") {
		if steps, ok := q.Why(q.a, q.b); len(steps) != 0 || ok {
			t.Error(q.a, q.b, steps, ok)
		}
	}
}

// TestWhySteps: P8.2, the names and numbers of steps: premises are counted, not parts.
func TestWhySteps(t *testing.T) {
	src := "type A = {}; method A.m() int {} method A.n(x int, y bool) text {} type I = interface {m() int;}; type T = interface {};"
	whys(t, src,
		// by rule 1
		[2]string{"A < interface {m() bool;}", "m0 0"}, [2]string{"A < interface {n(int, bool) int;}", "n0 2"}, [2]string{"A < interface {n(int, int) text; m() int;}", "n1 1"},
		[2]string{"A < interface {n(text, bool) text;}", "n0 0"}, [2]string{"A < interface {n(text) text;}", "n0"}, [2]string{"*A < interface {m() bool;}", "m0 0"}, [2]string{"{embed a A;} < interface {m() text;}", "m0 0"},
		[2]string{"{embed i I;} < interface {m() text;}", "m0 0"}, [2]string{"I < interface {m() *int;}", "m0 0"},
		// by rule 2: pointers, functions, records
		[2]string{"*int < *bool", "0"}, [2]string{"***int < ***bool", "0 0 0"}, [2]string{"fn() int < fn() bool", "0"}, [2]string{"fn(int) int < fn(bool) int", "0"}, [2]string{"fn(int, int, int) int < fn(int, int, bool) int", "2"},
		[2]string{"fn(int, int) int < fn(int, int) bool", "2"}, [2]string{"{a int;} < {a bool;}", "a0"}, [2]string{"{b int; a int;} < {b bool; a int;}", "b1"}, [2]string{"{c int; b int; a int;} < {a int; b int; c text;}", "c2"},
		[2]string{"{a {b {c int;};};} < {a {b {c bool;};};}", "a0 b0 c0"}, [2]string{"*{a fn(*int) I;} < *{a fn(*bool) T;}", "0 a0 0 0"},
		// an embedded field has two premises of its name, and those behind it are counted on
		[2]string{"{embed a {};} < {embed a *{};}", "a0"}, [2]string{"{embed a A;} < {embed a I;}", "a1"}, [2]string{"{embed a I;} < {embed a A;}", "a0"},
		[2]string{"{embed a A; b int;} < {embed a A; b bool;}", "b2"}, [2]string{"{embed a A; embed b I; c int;} < {embed a A; embed b I; c text;}", "c4"}, [2]string{"{a int; embed b A; c int;} < {a int; embed b I; c int;}", "b2"},
		[2]string{"{embed a {}; embed b A;} < {embed a {}; embed b I;}", "b3"},
	)
}

// TestWhyLeast: P8.2, the shortest way; of several the one by the earlier premise where they first part.
func TestWhyLeast(t *testing.T) {
	whys(t, "",
		// a later premise has a shorter way
		[2]string{"{a **int; b *int; c int;} < {a **bool; b *bool; c bool;}", "c2"}, [2]string{"{a **int; b *int;} < {a **bool; b *bool;}", "b1 0"}, [2]string{"fn(***int) *int < fn(***bool) *bool", "1 0"},
		// equally short
		[2]string{"{a int; b int;} < {a bool; b bool;}", "a0"}, [2]string{"{a *int; b *int;} < {a *bool; b *bool;}", "a0 0"}, [2]string{"fn(int, int) int < fn(bool, bool) bool", "0"},
		[2]string{"{a {x int; y *int;}; b {x int; y int;};} < {a {x int; y *bool;}; b {x bool; y bool;};}", "b1 x0"},
		[2]string{"{a {x int; y int;}; b {x int; y int;};} < {a {x int; y bool;}; b {x bool; y int;};}", "a0 y1"}, // y1 behind a0 is ahead of x0 behind b1
		// the first premises hold, and a later one fails
		[2]string{"{a *int; b int; c **int;} < {a *int; b int; c **text;}", "c2 0 0"}, [2]string{"fn(int, *bool) *int < fn(int, *bool) *bool", "2 0"},
		[2]string{"fn(int, interface {}) int < fn(int, interface {m() int;}) bool", "2"},
		// a premise that stands twice goes by its first number
		[2]string{"{a int; b *int; c *int;} < {a int; b *bool; c *bool;}", "b1 0"},
	)
	whys(t, runs,
		[2]string{"interface {m() *int; n() int;} < interface {m() *bool; n() bool;}", "n1 0"},
		[2]string{"interface {n() int; m() int;} < interface {m() bool; n() bool;}", "m0 0"},
		[2]string{"{a K; b J; c I;} < {a J; b J; c J;}", "c2"}, [2]string{"{a K; b A; c K;} < {a J; b J; c J;}", "a0 n1 0"}, [2]string{"fn(J) int < fn(K) int", "0 n1 0"},
	)
}

// TestWhyBack: P8.2 where premises come back: the way goes round no more than it must.
func TestWhyBack(t *testing.T) {
	whys(t, "type P = {a *P; b int;}; type Q = {a *Q; b bool;};", [2]string{"P < Q", "b1"}, [2]string{"*P < *Q", "0 b1"}, [2]string{"{x P;} < {x Q;}", "x0 b1"})
	ring := "type P = {a *Q; b int;}; type Q = {a *R; b int;}; type R = {a *P; b text;}; type X = {a *Y; b int;}; type Y = {a *Z; b int;}; type Z = {a *X; b bool;}; "
	whys(t, ring, [2]string{"P < X", "a0 0 a0 0 b1"}, [2]string{"Q < Y", "a0 0 b1"}, [2]string{"R < Z", "b1"}, [2]string{"*R < *Z", "0 b1"}, [2]string{"P < Y", "a0 0 b1"}, [2]string{"Q < X", "a0 0 b1"})
	// rings of two and of three, which part when they are in step for the first time
	whys(t, "type P = {a Q; v int;}; type Q = {a P; v A;}; type X = {a Y; v T;}; type Y = {a Z; v T;}; type Z = {a X; v I;}; type A = {}; type T = interface {}; type I = interface {m() int;}; ",
		[2]string{"P < X", "a0 a0 v1"}, [2]string{"Q < X", "a0 a0 v1"}, [2]string{"P < Z", "v1"})
	whys(t, "type P = {a Q; v J;}; type Q = {a P; v T;}; type X = {a Y; v T;}; type Y = {a Z; v T;}; type Z = {a X; v I;}; type T = interface {}; type I = interface {m() int;}; type J = interface {m() int; n() int;}; ",
		[2]string{"P < X", "a0 a0 a0 a0 a0 v1"}, [2]string{"Q < X", "a0 a0 v1"}, [2]string{"Q < Y", "a0 a0 a0 a0 v1"}, [2]string{"X < P", "v1"})
}
