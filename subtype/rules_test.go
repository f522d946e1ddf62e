package subtype_test

import "testing"

// TestRuleOfKinds: P8.1, Rule of pairs that have one label: its premises, in their order.
func TestRuleOfKinds(t *testing.T) {
	for _, kind := range []string{"int", "bool", "text"} {
		rules(t, "", kind+" < "+kind)
	}
	rules(t, "", "*int < *bool", "int < bool")
	rules(t, "", "fn() int < fn() bool", "int < bool")
	rules(t, "", "fn(int) bool < fn(text) int", "text < int", "bool < int")
	rules(t, "", "fn(int, *int, bool) bool < fn(text, **int, bool) int", "text < int", "**int < *int", "bool < bool", "bool < int")
	rules(t, "", "{} < {}")
	rules(t, "", "{a int;} < {a bool;}", "int < bool")
	rules(t, "", "{a int; b bool;} < {b int; a text;}", "int < text", "bool < int")
	rules(t, "", "{b int; a bool; c text;} < {c int; a text; b bool;}", "bool < text", "int < bool", "text < int") // by the names' bytes, whatever the text's order
	rules(t, "", "{embed b {}; a int; embed c interface {};} < {embed c {}; embed b *{}; a bool;}",
		"int < bool", "{} < *{}", "*{} < {}", "interface {} < {}", "{} < interface {}")
	rules(t, "type A = {x int;}; method A.m() int {}", "A < A", "int < int")
	rules(t, "type A = {embed x A;}; method A.m() int {}", "A < A", "A < A", "A < A")
	rules(t, "type A = {of int; embed record B;}; method A.m() int {} type B = {of int; embed record A;};", "B < B", "int < int", "A < A", "A < A") // fields of the names that labels have
	rules(t, "type A = *A;", "A < A", "A < A")
}

// TestRuleOfInterfaces: P8.1, Rule of pairs whose second one is an interface.
func TestRuleOfInterfaces(t *testing.T) {
	src := "type A = {}; method A.m(a A) int {} method A.n() bool {} type B = {embed x A; n int; embed y interface {o() A;};}; type I = interface {n() text; m(int) int;};"
	for _, a := range []string{"int", "bool", "text", "*int", "fn() A", "A", "*A", "**A", "{}", "I", "interface {}", "*I"} {
		rules(t, src, a+" < interface {}")
	}
	rules(t, src, "A < I", "fn(A) int < fn(int) int", "fn() bool < fn() text")
	rules(t, src, "*A < I", "fn(A) int < fn(int) int", "fn() bool < fn() text")
	rules(t, src, "I < I", "fn(int) int < fn(int) int", "fn() text < fn() text")
	rules(t, src, "B < interface {o() int; m() int;}", "fn(A) int < fn() int", "fn() A < fn() int")
	rules(t, src, "*B < interface {o() int;}", "fn() A < fn() int")
	rules(t, src, "{embed b *B;} < interface {m() A;}", "fn(A) int < fn() A")
	rules(t, src, "I < interface {m() A;}", "fn(int) int < fn() A")
	rules(t, src, "interface {m() A; n() I; o() I;} < I", "fn() A < fn(int) int", "fn() I < fn() text")
}

// TestNoRule: P8.1, pairs that are no conclusion: no premises, and Why has no step.
func TestNoRule(t *testing.T) {
	src := "type A = {x int;}; method A.m() int {} type B = {x int;}; method B.m() int {} type C = {x int;}; type I = interface {m() int;}; type E = {embed x C;}; type F = {x C;}; "
	kinds := []string{"int", "bool", "text", "*int", "{}", "{x int;}", "fn() int", "fn(int) int", "I", "interface {}", "A", "B"}
	for _, a := range kinds {
		for _, b := range kinds {
			if a != b && b != "I" && b != "interface {}" {
				noRule(t, src, a+" < "+b)
			}
		}
	}
	// other owners, with and without one, other fields, embeddings, numbers of parts
	noRule(t, src, "A < B", "B < A", "A < C", "C < A", "E < F", "F < E", "{a int;} < {b int;}", "{a int; b int;} < {a int;}", "{a int;} < {a int; b int;}", "{} < {a int;}",
		"{embed a C; b C;} < {a C; embed b C;}", "fn() int < fn(int) int", "fn(int) int < fn() int", "fn(int, int) int < fn(int) int")
	// an interface asks for a method that isn't there: none, a field, an ambiguous one, one behind a pointer too many
	noRule(t, src, "int < I", "bool < I", "text < I", "fn() int < I", "{} < I", "C < I", "*C < I", "interface {} < I", "interface {n() int;} < I", "**A < I", "*I < I", "**I < I", "*int < I", "*fn() A < I",
		"{m int;} < I", "{m fn() int;} < I", "{embed a A; m int;} < I", "{embed m A;} < I", "{embed a A; embed b B;} < I", "{embed a A; embed b *A;} < I", "{embed a A; embed i I;} < I", "{a A;} < I", "{a I;} < I",
		"{embed c {embed a A; m int;};} < I", "*{m fn() int;} < I", "A < interface {m() int; n() int;}", "A < interface {a() int; m() int;}", "A < interface {x() int;}", "I < interface {m() int; n() I;}")
}

// TestRuleAlone: P8.1, a pair may be a conclusion though it isn't below, and so may its premises.
func TestRuleAlone(t *testing.T) {
	for _, x := range []struct {
		src, pair string
		premises  []string
	}{
		{"", "*int < *bool", []string{"int < bool"}},
		{"", "**int < **bool", []string{"*int < *bool"}},
		{"type A = {}; method A.m() int {}", "A < interface {m() bool;}", []string{"fn() int < fn() bool"}},
		{"type A = {}; method A.m() int {}", "A < interface {m(int) int;}", []string{"fn() int < fn(int) int"}},
		{runs, "K < J", []string{"fn() int < fn() int", "fn() I < fn() J"}},
		{"type P = {a *P; b int;}; type Q = {a *Q; b bool;};", "P < Q", []string{"*P < *Q", "int < bool"}},
	} {
		rules(t, x.src, x.pair, x.premises...)
		fails(t, x.src, x.pair)
	}
}
