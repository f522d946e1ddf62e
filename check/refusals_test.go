package check_test

import (
	"strconv"
	"strings"
	"testing"

	"coil/api"
	"coil/check"
	"coil/graph"
	"coil/parse"
)

// TestWrongTrees: P9.1, 1: a tree that isn't right is refused at 0, without a name, whatever its places and names are.
func TestWrongTrees(t *testing.T) {
	number := api.Type{Kind: api.TInt}
	for i, spoil := range []func(p *api.Program){
		func(p *api.Program) { *p = api.Program{} },
		func(p *api.Program) { p.Defs[0].Name = "a" },
		func(p *api.Program) { p.Defs[0].T = api.Type{} },
		func(p *api.Program) { p.Defs[0].T.Embeds = nil },
		func(p *api.Program) { p.Methods[0].Owner = "" },
		func(p *api.Program) { p.Methods[0].Name = "" },
		func(p *api.Program) { p.Methods[0].Result = api.Type{} },
		func(p *api.Program) { p.Methods[0].Body = []api.Stmt{{}} },
		func(p *api.Program) { p.Funcs[0].Owner = "A" },
		func(p *api.Program) { p.Funcs[0].Name = "" },
		func(p *api.Program) { p.Funcs[0].Name = "int" },
		func(p *api.Program) { p.Funcs[0].Params = append(p.Funcs[0].Params, p.Funcs[0].Params[0]) },
		func(p *api.Program) { p.Funcs[0].Params[0].T.Name = "A" },
		func(p *api.Program) { p.Main.Name = "main" },
		func(p *api.Program) { p.Main.Owner = "A" },
		func(p *api.Program) { p.Main.Params = []api.Param{{Name: "a", T: number}} },
		func(p *api.Program) { p.Main.Body[0].X = nil },
		func(p *api.Program) { p.Main.Body[0].X = append(p.Main.Body[0].X, p.Main.Body[0].X[0]) },
		func(p *api.Program) { p.Main.Body[0].X[0].N = -1 },
		func(p *api.Program) { p.Main.Body[0].X[0].Kind = api.XOr + 1 },
		func(p *api.Program) { p.Main.Body[0].X[0] = api.Expr{Kind: api.XNil} },
		func(p *api.Program) { p.Main.Body[0].T = []api.Type{number} },
		func(p *api.Program) { p.Main.Body[0].X[0] = nested(api.MaxNest + 1) },
	} {
		p := parsed(t, "   type A = {x int;}; method A.m() int { return 1; } func f(a int) int { return a; } main int { return 1; }")
		if r := refusal(t, p); r != nil {
			t.Fatal(r)
		}
		spoil(&p)
		if r := refusal(t, p); r == nil || *r != (check.Refusal{Why: api.ErrArg}) {
			t.Errorf("%d: %+v", i, r)
		}
	}
}

// nested is a number with signs ahead of it, that deep.
func nested(depth int) api.Expr {
	x := api.Expr{Kind: api.XInt, Place: api.Place{At: 50}}
	for range depth - 1 {
		x = api.Expr{Kind: api.XNeg, Parts: []api.Expr{x}, Place: api.Place{At: 50}}
	}
	return x
}

// TestDefinitions: P9.1, 2: what graph.New refuses, with its place and name.
func TestDefinitions(t *testing.T) {
	rest := " main int { return 1; }"
	refuses(t, api.ErrTwice, "A", "type A = {}; @type A = int;"+rest)
	refuses(t, api.ErrOwner, "m", " @method A.m() int { return 1; }"+rest, "type A = int; @method A.m() int { return 1; }"+rest, "type A = {}; type B = A; @method B.m() int { return 1; }"+rest)
	refuses(t, api.ErrTwice, "m", "type A = {m int;}; @method A.m() int { return 1; }"+rest, "type A = {}; method A.m() int { return 1; } @method A.m() int { return 2; }"+rest)
	refuses(t, api.ErrNoName, "Z", " @type A = {a Z; b Y;};"+rest, "type A = {}; @method A.m(a Z) Y { return a; }"+rest)
	refuses(t, api.ErrContract, "A", " @type A = B; type B = A;"+rest, " @type A = A;"+rest)
	refuses(t, api.ErrEmbed, "b", " @type A = {embed b int;};"+rest, "type A = {}; @method A.m(a {embed b **A;}) int { return 1; }"+rest)
	refuses(t, api.ErrTooMany, "", " type A = {"+manyFields(api.MaxTypes)+"};"+rest)
	for _, src := range []string{"type A = B; type B = A;", "type A = {x int;}; method A.x() int { return 1; }", "type B = {}; type A = {embed b fn() int;};", "type A = {}; type A = A;"} {
		defs, methods, err := parse.Defs(src)
		if err != nil {
			t.Fatal(err)
		}
		_, err = graph.New(defs, methods...)
		want, ok := err.(*graph.Refusal)
		if r := refusal(t, parsed(t, src+rest)); !ok || r == nil || r.Place != want.Place || r.Why != want.Why || r.Name != want.Name {
			t.Errorf("%s: %+v, not %+v", src, r, want)
		}
	}
}

// manyFields is that many fields, each of a node of its own.
func manyFields(n int) string {
	var b strings.Builder
	for i := range n {
		b.WriteString("a" + strconv.Itoa(i) + " int;")
	}
	return b.String()
}

// TestFunctions: P9.1, 3: two functions of one name.
func TestFunctions(t *testing.T) {
	refuses(t, api.ErrTwice, "f", "func f() int { return 1; } @func f() int { return 1; } main int { return 1; }", "func f() int { return 1; } @func f(a int) bool { return true; } main int { return 1; }",
		"func f() int { return 1; } func g() int { return 1; } @func f() int { return 1; } func g() int { return 1; } func f() int { return 1; } main int { return 1; }")
	accepts(t, "type A = {}; method A.f() int { return 1; } func f() int { return 1; } main int { return 1; }", "type A = {f int;}; func f() int { return 1; } main int { return 1; }")
}

// chain goes through a text with faults, numbered from 1 on: what stands at $N, is wrong, and told at the place of #N#. Those
// ahead of each one are mended by the good word, those behind it stay.
func chain(t *testing.T, src, good, bad string, why api.Errno) {
	t.Helper()
	last := 1
	for ; strings.Contains(src, "$"+strconv.Itoa(last)+" "); last++ {
		words := strings.Split(unmarked(src, last), "$")
		text := words[0]
		for _, w := range words[1:] {
			number, rest, _ := strings.Cut(w, " ")
			if n, _ := strconv.Atoi(number); n < last {
				text += good + " " + rest
			} else {
				text += bad + number + " " + rest
			}
		}
		refuses(t, why, bad+strconv.Itoa(last), text)
	}
	if last < 20 {
		t.Error("the chain ends at", last)
	}
}

// unmarked takes the marks #N# out of a text; the one of that number is @ then.
func unmarked(src string, number int) string {
	text := ""
	for i, s := range strings.Split(src, "#") {
		switch {
		case i%2 == 0:
			text += s
		case s == strconv.Itoa(number):
			text += "@"
		}
	}
	return text
}

// types names a type at each place at which a program can, numbered in the order in which they are taken.
const types = "type A = {x int;}; " +
	"method A.m() int { #6#let a *$6 = #7#nil *$7 ; #8#let b *$8 = nil *A; return 1; } method A.n(a A) int { return (#9#nil *$9 ).x; } " +
	"#1##2#func f(a $1 , b $2 ) A { let c = #11#nil *$11 #10#to *$10 ; return b; } " +
	"#3##4#func g(a *A, b $3 ) $4 { if #12#nil *$12 == #13#nil *$13 { let c = #14#nil *$14 ; } else { #15#let d *$15 = nil *A; } while (#16#nil *$16 ).x == 1 { #17#new $17 {x: (#18#nil *$18 ).x}; } return b; } " +
	"#5#main $5 { let h = f; print h(#19#nil *$19 , #20#nil *$20 ); (#21#nil *$21 ).m(#22#nil *$22 , A{x: #23#nil *$23 }); print - #24#nil *$24 ; return #25#nil *$25 ; }"

// TestNamed: P9.1, 4: the types that a program names beside its definitions and methods, each at its own place, one after
// the other.
func TestNamed(t *testing.T) {
	chain(t, types, "A", "Z", api.ErrNoName)
	rest := " main int { return 1; }"
	refuses(t, api.ErrEmbed, "b", "type A = {}; @func f(a {embed b int;}) int { return 1; }"+rest, " @main {embed b **int;} { return 1; }", "main int { @let a {embed b int;} = 1; return 1; }", "main int { return @nil {embed b int;}; }",
		"main int { return 1 @to *{embed b fn() int;}; }")
	refuses(t, api.ErrNoName, "Z", "main int { let a = @new Z{}; return 1; }", "main int { @let a fn(Z, Y) int = 1; return 1; }", "main int { print 1 @to {a int; b Z;}; return 1; }", "type A = {}; @func f(a A) Z { return 1; }"+rest)
	// A function's type is one deeper than those of its parameters and its result.
	deep := strings.Repeat("*", api.MaxNest-2) + "int"
	accepts(t, "func f(a "+deep+") int { return 1; }"+rest, "type A = {}; method A.m(a *"+deep+") int { return 1; }"+rest, "main int { let a = nil *"+deep+"; return 1; }")
	refuses(t, api.ErrArg, "", "type A = {}; @func f(a *"+deep+") int { return 1; }"+rest, "type A = {}; @func f() *"+deep+" { return 1; }"+rest)
}

// room is statements whose types have that many nodes, over a definition A.
func room(nodes int) string {
	var b strings.Builder
	for ; nodes > 0; nodes -= 50 {
		b.WriteString("nil " + strings.Repeat("*", min(nodes, 50)) + "A; ")
	}
	return b.String()
}

// TestRoom: P9.1, 4: where the types that were taken before leave no room.
func TestRoom(t *testing.T) {
	const most = api.MaxTypes
	for stmt, nodes := range map[string]int{
		"@let a int = 1;": 1, "@let a {b int;} = 1;": 2, "print @nil *A;": 1, "print 1 @to **A;": 2, "print @new A{};": 1, "print f(A{a: @nil fn(A) int});": 2, "if 1 { } else { @let a *text = 1; }": 2, "x.y(@nil {});": 1,
	} {
		body := func(spare int) string { // A's record and main's int are taken, too
			return "type A = {}; main int { " + room(most-2-nodes-spare) + stmt + " return 1; }"
		}
		refuses(t, api.ErrTooMany, "", body(-1), strings.Replace(body(0), "@", "", 1)) // all of them have room, but int, bool, text have none
	}
	rest := "return \"\"; } main int { return 1; }" // beside the fields: a function, a record, text, main's int
	accepts(t, "func f(a {"+manyFields(most-4-3)+"}) text { "+rest)
	refuses(t, api.ErrTooMany, "", " func f(a {"+manyFields(most-4-2)+"}) text { "+rest, " func f(a {"+manyFields(most-4)+"}) text { "+rest, " func f(a {"+manyFields(most-3)+"}) text { "+strings.Replace(rest, "main", "@main", 1),
		" @func f(a {"+manyFields(most-2)+"}) text { "+rest, " func f(a {"+manyFields(most-3)+"}) text { return \"\"; } @func g() int { return 1; } main int { return 1; }",
		" @main {"+manyFields(most)+"} { return 1; }", " main {"+manyFields(most-1)+"} { @let a int = 1; return 1; }", "type A = {}; @main {"+manyFields(most-1)+"} { return 1; }")
}

// TestBasicRoom: P9.1, the classes: int, bool and text need a node each, even if there is one already; names need none.
func TestBasicRoom(t *testing.T) {
	for spare := range 4 {
		src := "type A = {}; main int { " + room(api.MaxTypes-2-spare) + "let a A = A{}; let b A = a to A; return 1; }"
		if spare == 3 {
			accepts(t, src)
		} else {
			refuses(t, api.ErrTooMany, "", src)
		}
	}
}

// TestOrder: P9.1, of two faults the one that the chapter names first: of each two numbers.
func TestOrder(t *testing.T) {
	for _, src := range []string{"type A = A; main int { return 1; }", "func f() int { return 1; } func f() int { return 1; } main int { return 1; }", "main int { return x; }", "main int { return nil Z; }"} { // 1 and all others
		p := parsed(t, src)
		p.Main.Body[0].Name = "a"
		if r := refusal(t, p); r == nil || *r != (check.Refusal{Why: api.ErrArg}) {
			t.Errorf("%s: %+v", src, r)
		}
	}
	f := "func f() int { return 1; } "
	refuses(t, api.ErrContract, "A", " @type A = A; "+f+f+"main int { return 1; }")          // 2 and 3
	refuses(t, api.ErrNoName, "Y", " @type A = {y Y;}; main Z { return 1; }")                // 2 and 4
	refuses(t, api.ErrOwner, "m", " @method A.m() int { return x; } main int { return 1; }") // 2 and 5
	refuses(t, api.ErrTwice, "f", f+"@"+f+"main Z { return 1; }", "func f() Z { return 1; } @"+f+"main int { return nil Z; }", f+"@"+f+"main int { return x; }")
	// 4, the room for int, bool, text, and 5
	refuses(t, api.ErrNoName, "Z", "type A = {}; main int { "+room(api.MaxTypes-2)+"@let a Z = 1; return 1; }", "type A = {}; method A.m() int { return x; } func f() int { } main int { return @nil Z; }")
	refuses(t, api.ErrTooMany, "", "type A = {}; main int { "+room(api.MaxTypes-4)+"return x; }", "type A = {}; main int { "+room(api.MaxTypes-2)+"}")
	refuses(t, api.ErrNoName, "x", "type A = {}; main int { "+room(api.MaxTypes-5)+"return @x; }")
}

// bodies names a variable at many places, numbered in the order in which they are come to.
const bodies = "type A = {x int;}; method A.m(i int) int { print #1#$1 ; let a = #2#$2 ; a = #3#$3 ; #4#$4 ; return #5#$5 ; } method A.n() int { return #6#$6 ; } " +
	"func f(i int) int { if #7#$7 == #8#$8 { print #9#$9 ; } else { print #10#$10 ; } while f(#11#$11 ) < - #12#$12 { if true { print #13#$13 ; } print #14#$14 ; } return A{x: #15#$15 }.x; } " +
	"func g(a int, b int) int { return g(#16#$16 , #17#$17 ); } main int { return g(#18#$18 , A{x: #19#$19 }.m(#20#$20 )); }"

// TestBodies: P9.1, 5: methods, functions, the main one, and in each of them one statement after the other.
func TestBodies(t *testing.T) {
	chain(t, bodies, "1", "v", api.ErrNoName)
	// What is missing behind a body's statements comes ahead of the next body.
	refuses(t, api.ErrReturn, "m", "type A = {}; @method A.m() int { } method A.n() int { return x; } func f() int { return x; } main int { return x; }")
	refuses(t, api.ErrReturn, "f", "type A = {}; method A.n() int { return 1; } @func f() int { print 1; } func g() int { return x; } main int { return x; }")
	refuses(t, api.ErrReturn, "", "func f() int { return 1; } @main int { print 1; }")
	refuses(t, api.ErrNoName, "x", "type A = {}; func f() int { } method A.n() int { return @x; } main int { return 1; }", "func f() int { return @x; } main int { }")
}
