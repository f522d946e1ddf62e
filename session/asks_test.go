package session_test

import (
	"testing"
)

// TestIds: P15.1, id and ids: chapter 6's runs, as lines.
func TestIds(t *testing.T) {
	s := opened(t, "defs type A = {n int; next *A;}; type B = {next *A; n int;}; type C = {n int; next *{n int; next *text;};};")
	plays(t, s,
		play{"id A", "ok 0"}, play{"id B", "ok 0"}, play{"id C", "ok 3"}, play{"id int", "ok 1"}, play{"id *A", "ok 2"}, play{"id text", "ok 7"}, play{"id {next *B; n int;}", "ok 0"}, play{"id bool", "ok 8"}, play{"id *bool", "ok 8"}, play{"id {x bool; y **bool;}", "ok 8"},
		play{"ids *bool | bool", "ok 8 9"}, play{"ids bool | *bool", "ok 8 9"}, play{"ids bool | text", "ok 8 7"}, play{"ids fn() A | fn() B", "ok 8 8"}, play{"ids fn(bool, *bool) int | *bool", "ok 8 10"}, play{"ids {a bool;} | {b *bool;}", "ok 8 10"}, play{"ids {x fn(bool) int;} | bool", "ok 8 10"}, play{"ids int | A", "ok 1 0"},
	)
}

// TestBelow: P15.1, below: chapter 8's runs, as lines; the greatest relation is asked.
func TestBelow(t *testing.T) {
	s := opened(t, "defs "+eight)
	for _, x := range []play{
		{"J | I", "yes"}, {"I | J", "no"}, {"A | I", "yes"}, {"*A | I", "yes"}, {"**A | I", "no"}, {"A | J", "yes"}, {"J | K", "yes"}, {"K | J", "no"}, {"fn(I) A | fn(J) I", "yes"}, {"fn(J) A | fn(I) I", "no"}, {"{a A;} | {a I;}", "yes"}, {"{embed a A;} | {embed a I;}", "no"}, {"int | interface {}", "yes"}, {"fn() int | interface {}", "yes"},
		{"int | int", "yes"}, {"int | bool", "no"}, {"A | {x int;}", "no"}, {"{x int;} | {x interface {};}", "yes"}, {"*J | *I", "yes"}, {"interface {n() J; m() int;} | J", "yes"}, {"I | interface {m() interface {};}", "yes"},
	} {
		plays(t, s, play{"below " + x[0], "ok " + x[1]})
	}
}

const eight = "type I = interface {m() int;}; type J = interface {m() int; n() J;}; type K = interface {n() I; m() int;}; type A = {x int;}; method A.m() int {} method A.n() *A {}"

// TestWhy: P15.1, why: no step, one, several, with a Name and without one.
func TestWhy(t *testing.T) {
	s := opened(t, "defs type I = interface {m() int;}; type J = interface {m() int; n() J;}; type K = interface {n() I; m() int;}; type A = {x int;}; method A.m() int {} method A.n() *A {} type L = interface {m(int, I) int; k() bool;}; type M = interface {k() bool; m(int, J) int;};")
	for _, x := range []play{
		{"J | I", "below"}, {"A | J", "below"}, {"int | int", "below"}, {"int | interface {}", "below"}, {"I | J", "at once"}, {"int | bool", "at once"}, {"int | *int", "at once"}, {"**A | I", "at once"}, {"A | {x int;}", "at once"},
		{"K | J", "1:n 0"}, {"*int | *bool", "0"}, {"**int | **bool", "0 0"}, {"fn(int) int | fn(bool) int", "0"}, {"fn(int) int | fn(int) bool", "1"}, {"fn(int, I) int | fn(int, J) int", "below"}, {"fn(int, J) int | fn(int, I) int", "1"}, {"fn() int | fn() bool", "0"},
		{"L | M", "below"}, {"M | L", "1:m 1"}, {"{a int;} | {a bool;}", "0:a"}, {"{b int; a int;} | {a int; b bool;}", "1:b"}, {"{embed a A;} | {embed a I;}", "1:a"}, {"{a A; embed b I; c int;} | {c text; a I; embed b I;}", "3:c"}, {"*{z fn(*int) A;} | *{z fn(*bool) I;}", "0 0:z 0 0"}, {"{b *int; a int;} | {a int; b *bool;}", "1:b 0"},
	} {
		plays(t, s, play{"why " + x[0], "ok " + x[1]})
	}
}

// TestDiffer: P15.1, differ: chapter 5's runs, as lines.
func TestDiffer(t *testing.T) {
	s := opened(t, "defs type A = {n int; next *A;}; type B = {next *A; n int;}; type C = {n int; next *{n int; next *text;};}; type O = {n int; next *A;}; method O.m() int {}")
	for _, x := range []play{
		{"A | B", "same"}, {"A | C", "1:next 0 1:next 0"}, {"C | B", "1:next 0 1:next 0"}, {"A | A", "same"}, {"int | int", "same"}, {"int | bool", "at once"}, {"A | O", "at once"}, {"*A | *O", "0"}, {"A | *A", "at once"}, {"{n int; next *B;} | A", "same"},
		{"fn(int) A | fn(int) int", "1"}, {"fn(int) A | fn(int, A) int", "at once"}, {"interface {b() int; a() int;} | interface {a() int; b() bool;}", "1:b 0"}, {"{a int; embed e A;} | {a int; embed e O;}", "1:e"}, {"{a int; embed e A;} | {a int; e A;}", "at once"}, {"interface {} | interface {}", "same"}, {"{} | {}", "same"}, {"{} | interface {}", "at once"}, {"fn(*int) *int | fn(*bool) *text", "0 0"}, {"{b int; a fn(int) int;} | {a fn(bool) int; b text;}", "1:b"},
	} {
		plays(t, s, play{"differ " + x[0], "ok " + x[1]})
	}
}

// TestLabel: P15.1, label: chapter 5's labels, and of types with definitions' names.
func TestLabel(t *testing.T) {
	s := opened(t, "defs type A = {x int; embed b *A;}; type B = A; method A.m() int {} type C = {};")
	for _, x := range []play{
		{"int", "int"}, {"bool", "bool"}, {"text", "text"}, {"A", "record of A +b x"}, {"B", "record of A +b x"}, {"*A", "*"}, {"C", "record"}, {"{}", "record"}, {"{x int; embed b *A;}", "record +b x"}, {"fn() A", "fn 1"}, {"fn(int, A) A", "fn 3"}, {"interface {}", "interface"}, {"interface {z() int; a(A) A;}", "interface a z"}, {"{z int; a A; embed m C;}", "record a +m z"},
	} {
		plays(t, s, play{"label " + x[0], "ok " + x[1]})
	}
}

const seven = "type A = {x int;}; method A.m() int {} type B = {embed a A; y int;}; type C = {embed a *A;}; type D = {embed b B; embed c C;}; type E = {embed b B; embed a A;}; type R = {embed r *R; embed a A;}; type I = interface {m() int;}; type F = {embed i I; x int;};"

// TestFind: P15.1, find: chapter 7's runs, as lines: fields, methods, an interface's methods, promoted ones with their Path.
func TestFind(t *testing.T) {
	s := opened(t, "defs "+seven)
	for _, x := range []play{
		{"x A", "ok field"}, {"x B", "ok field a"}, {"m B", "ok method A a"}, {"y B", "ok field"}, {"a B", "ok field"}, {"m D", "error 31"}, {"y D", "ok field b"}, {"a D", "error 31"}, {"b D", "ok field"}, {"m E", "ok method A a"}, {"a E", "ok field"}, {"y E", "ok field b"}, {"m R", "ok method A a"}, {"z R", "error 30"}, {"r R", "ok field"}, {"m F", "ok iface i"}, {"x F", "ok field"}, {"m I", "ok iface"}, {"m *A", "ok method A"}, {"m **A", "error 30"}, {"m int", "error 30"},
		{"m {embed d *D; embed q {embed f F;};}", "error 31"}, {"m {embed q {embed f F;};}", "ok iface q f i"}, {"m {embed q {embed b *B;};}", "ok method A q b a"}, {"x {embed q {embed b *B;}; m int;}", "ok field q b a"}, {"m *{embed i I;}", "ok iface i"}, {"m interface {m() A;}", "ok iface"}, {"self A", "error 30"}, {"type A", "error 30"}, {"A A", "error 30"}, {"x | A", "error 10 at 0"}, {"x,y A", "error 30"},
	} {
		plays(t, s, play{"find " + x[0], x[1]})
	}
}

// TestMethods: P15.1, methods: the names of all that Lookup finds, in the order of their bytes.
func TestMethods(t *testing.T) {
	s := opened(t, "defs "+seven)
	for _, x := range []play{{"A", " m"}, {"E", " m"}, {"F", " m"}, {"D", ""}, {"int", ""}, {"*A", " m"}, {"**A", ""}, {"{m int;}", ""}, {"{embed a A; m int;}", ""}, {"interface {b() int; a() int; aA() int; a_() int; a1() int;}", " a a1 aA a_ b"}, {"{embed f F; embed q interface {z() int; k() int;};}", " k m z"}, {"{embed a A; embed f F;}", " m"}, {"{embed a A; embed i I;}", ""}, {"{embed a A; embed i I; m int;}", ""}, {"fn() A", ""}, {"interface {}", ""}} {
		plays(t, s, play{"methods " + x[0], "ok" + x[1]})
	}
}

// TestTable: P15.1, table: chapter 12's runs, as lines.
func TestTable(t *testing.T) {
	s := opened(t, "defs "+twelve)
	for _, x := range []play{
		{"B | J", "ok a:B m:A"}, {"A | J", "error 40"}, {"A | B", "error 1"}, {"I | J", "error 40"}, {"J | I", "ok m:-"}, {"*B | J", "ok a:B m:A"}, {"**B | J", "error 40"}, {"A | interface {}", "ok"}, {"int | interface {}", "ok"}, {"{embed i I; embed b interface {a() int;};} | J", "ok a:- m:-"}, {"{embed i J; embed x {embed b B;};} | J", "ok a:- m:-"}, {"{embed x {embed b B;}; embed i I;} | J", "ok a:B m:-"}, {"{embed j J; embed b B;} | J", "error 40"}, {"J | interface {m() interface {}; a() int;}", "ok a:- m:-"}, {"int | J", "error 40"}, {"int | *J", "error 1"},
	} {
		plays(t, s, play{"table " + x[0], x[1]})
	}
}

// TestTableAlone: P15.1, table asks not the cache: counts stay, and so does which tables it keeps.
func TestTableAlone(t *testing.T) {
	s := opened(t, "program "+fourth)
	plays(t, s, play{"table A | I", "ok m:A"}, play{"counts", "ok 0 0 0 0"}, play{"go 9", "ok 0 4 0 7"}, play{"counts", "ok 1 1 1 1"}, play{"table A | I", "ok m:A"}, play{"table I | I", "ok m:-"}, play{"table *A | I", "ok m:A"}, play{"table A | interface {}", "ok"}, play{"counts", "ok 1 1 1 1"}, play{"go 9", "ok 0 4 0 7"}, play{"counts", "ok 1 1 2 1"})
}

// TestClasses: P15.1, classes: those of the set, whatever types are asked.
func TestClasses(t *testing.T) {
	s := opened(t, "defs "+set)
	plays(t, s, play{"classes", "ok 4"}, play{"id fn(bool) text", "ok 4"}, play{"classes", "ok 4"}, play{"why bool | text", "ok at once"}, play{"label *bool", "ok *"}, play{"classes", "ok 4"}, play{" classes\t", "ok 4"})
}
