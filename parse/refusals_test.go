package parse_test

import (
	"strings"
	"testing"

	"coil/api"
	"coil/lex"
	"coil/parse"
)

// fault is a text with its first wrong token at its end.
type fault struct {
	rule, src string
	at        int
	why       api.Errno
}

// twice is each list in which a name may stand but once, cut behind the name that stands in it again.
func twice() []fault {
	var l []fault
	for rule, srcs := range map[string][]string{
		"<type>": {
			"{a int; a", "{a int; embed a", "{embed a A; a", "{embed a A; embed a", "{a int; b int; a", "{a int; b int; b", "{a {a int; b int;}; b {a int;}; a",
			"{b {a int; a", "interface {a(int) B; a", "interface {a() B; b() B; a", "interface {a() interface {a() int;}; b() int; b", "fn({a int; a", "fn() {a int; a",
		},
		"<expr>": {
			"new P{x: 1, x", "P{x: 1, x", "P{x: 1, y: 2, x", "P{x: 1, y: 2, y", "P{x: P{x: 1, y: 2}, y: P{x: 1}, x", "a(P{x: P{x: 1}, x", "nil {a int; a", "a to interface {a() B; a",
		},
		"<stmts>":   {"let a {a int; a", "let a = P{a: b, a", "while P{a: b, a", "a; if a {P{a: b, a"},
		"<defs>":    {"method A.m(a int, a", "method A.m(a int, b int, a", "method A.m(a int, b int, b", "type A = {a int; a", "type A = {a int;}; type B = {a int; b int; b"},
		"<program>": {"func f(a int, a", "func f(a {a int;}, b int, a", "func f(a int) int {} func f(b int, a int, b", "method A.m(a int) int {} method A.m(b int, b", "main {a int; a", "main int {P{a: b, a"},
	} {
		for _, src := range srcs {
			l = append(l, fault{rule, src, len(src) - 1, api.ErrTwice})
		}
	}
	return l
}

// TestTwice: P3.1, ErrTwice at the second of two names, when it is read: nothing behind it is asked.
func TestTwice(t *testing.T) {
	for _, f := range twice() {
		refused(t, entryOf(f.rule), f.src, f.at, api.ErrTwice)
	}
	refused(t, entryOf("<expr>"), "new P{x: 1, x: 2}", 12, api.ErrTwice)
	refused(t, entryOf("<type>"), "interface {a(int) B; a() B;}", 21, api.ErrTwice)
	refused(t, entryOf("<program>"), "func f(a int, a int) int {} main", 14, api.ErrTwice)
}

// TestNotTwice: P3.1, names that stand again in another list, or are no names of a list.
func TestNotTwice(t *testing.T) {
	for rule, src := range map[string]string{
		"<type>":    "{a {a int; b int;}; b {a int;}; c interface {a() int; b(interface {a() int;}) int;};}",
		"<expr>":    "P{a: P{a: a, b: a}, b: a(a, a).a(a).a to {a A;}, c: new P{a: a}}",
		"<stmts>":   "let a = a; let a = a; a = a; a = P{a: a}; print P{a: a};",
		"<defs>":    "type A = {a int;}; type A = {a int;}; method A.a(a int) int {let a = a;} method A.a(a int) int {}",
		"<program>": "type A = A; type A = A; method A.a(a A, b A) A {} method A.a(a A) A {} func a(a A) A {} func a() A {} main A {}",
	} {
		if _, err := entryOf(rule).read(src); err != nil {
			t.Error(src, err)
		}
	}
}

// TestLexRefuses: P3.1, what lex refuses is told as lex says it, whatever stands ahead of it.
func TestLexRefuses(t *testing.T) {
	for _, ahead := range []string{
		"", "int ", "1 + ", "let a = ; ", "} ) ; ", "type A = {a int; a int;}; ", "main int {} main ", strings.Repeat("( ", 70), strings.Repeat("* ", 70),
		"new P{x: 1, x: 2}; ", "func f() int {} ", "a",
	} {
		for _, wrong := range []string{
			" #", " 007", " 1a b", " 9223372036854775808", " \"a", " \"\\x\"", " / b", strings.Repeat("x", 40), strings.Repeat(" ;", api.MaxItems+1), strings.Repeat(" ", api.MaxText+1), " \xc3\xa9 #",
		} {
			src := ahead + wrong
			_, err := lex.Tokens(src)
			r, ok := err.(*lex.Refusal)
			if !ok {
				t.Fatalf("%.40q: lex refuses nothing", src)
			}
			allRefuse(t, src, r.Where(), r.Why)
		}
	}
}

// TestMostItems: P3.1, texts of MaxText bytes and of MaxItems tokens are read.
func TestMostItems(t *testing.T) {
	sum := "a" + strings.Repeat("+a", api.MaxItems/2-1)
	if _, err := parse.Expr(sum); err != nil {
		t.Error(err)
	}
	if _, err := parse.Expr("-" + sum); err != nil {
		t.Error(err)
	}
	refused(t, entryOf("<expr>"), "--"+sum, len(sum)+1, api.ErrMany)
	if l, err := parse.Stmts(strings.Repeat("a;", api.MaxItems/2)); err != nil || len(l) != api.MaxItems/2 {
		t.Error(len(l), err)
	}
	if _, err := parse.Type(strings.Repeat(" ", api.MaxText-3) + "int"); err != nil {
		t.Error(err)
	}
	refused(t, entryOf("<type>"), strings.Repeat(" ", api.MaxText-2)+"int", 0, api.ErrLong)
}

// faults is texts with their first wrong token at their end, for each number that this layer tells but ErrEnd; a | stands ahead of it.
func faults() []fault {
	l := twice()
	for rule, srcs := range map[string][]string{
		"<type>":    {"|+", "int |int", "{a int |}", "fn(|,", "interface {a |:", "{a int;} |;", "* |)"},
		"<expr>":    {"|*", "1 |2", "a == b |==", "a . |A", "P{x |1", "P |)", "(1 |;", "new |x", "a(1 |2", "nil |-", "a to |1"},
		"<stmts>":   {"|}", "a = |;", "a; |else", "if a |;", "let |A", "let a |;", "while a {b |}", "print |;", "return |}", "a |1", "|{"},
		"<defs>":    {"|;", "|func", "|main", "type |a", "type A |int", "type A = int |)", "method |a", "method A |m", "method A.m |{", "method A.m(|int", "method A.m() {} |;"},
		"<program>": {"|a", "main {} |;", "func |A", "func f |{", "main int {} |main", "main int {} |type", "method A.m() int {} |1", "main |main"},
	} {
		for _, src := range srcs {
			l = append(l, fault{rule, strings.Replace(src, "|", "", 1), strings.Index(src, "|"), api.ErrToken})
		}
	}
	return append(l,
		fault{"<type>", strings.Repeat("*", 64) + "int", 64, api.ErrNest},
		fault{"<expr>", strings.Repeat("(", 64) + "a", 64, api.ErrNest},
		fault{"<stmts>", strings.Repeat("if a{", 64) + "a", 5 * 64, api.ErrNest},
		fault{"<defs>", "type A = " + strings.Repeat("fn(", 64) + "A", 9 + 3*64, api.ErrNest},
		fault{"<program>", "main int {" + strings.Repeat("-", 64) + "a", 10 + 64, api.ErrNest})
}

// TestBehindIsNothing: P3.4, behind the first wrong token nothing matters, but what lex refuses.
func TestBehindIsNothing(t *testing.T) {
	for _, f := range faults() {
		e := entryOf(f.rule)
		refused(t, e, f.src, f.at, f.why)
		for _, behind := range []string{
			"// a", "a", "A", "7", "}", ") ) )", "; ; ;", "= 1 ;", "{ a int ; a int ; }", "a == b == c", strings.Repeat("( ", 100), "main int { }",
			"P { a : 1 , a : 2 }", "\"a\" else", strings.Repeat("{ } ", 1000),
		} {
			refused(t, e, f.src+" "+behind, f.at, f.why)
		}
		for behind, at := range map[string]int{"#": 0, "a 007": 2, "} \"": 3, "\"\\x": 2, "// a\n/": 5} {
			src := f.src + " " + behind
			_, err := lex.Tokens(src)
			r := err.(*lex.Refusal)
			refused(t, e, src, len(f.src)+1+at, r.Why)
		}
	}
}

// TestEndsEarly: P3.1, ErrEnd at the text's length, with all blanks and remarks behind the last token.
func TestEndsEarly(t *testing.T) {
	for rule, src := range map[string]string{
		"<type>": "{a int;", "<expr>": "a.b(1,", "<stmts>": "if a {} else {b", "<defs>": "type A = int", "<program>": "func f() int {}",
	} {
		for _, behind := range []string{"", " ", "\n\n", "// a remark", " // one\n// two\n  "} {
			refused(t, entryOf(rule), src+behind, len(src)+len(behind), api.ErrEnd)
		}
	}
	for _, rule := range []string{"<type>", "<expr>", "<program>"} {
		refused(t, entryOf(rule), "", 0, api.ErrEnd)
		refused(t, entryOf(rule), " // a", 5, api.ErrEnd)
	}
}

// TestAnswersAreNew: R2, what is done to an answer, its spare room too, is not seen in another one, nor in another list of it.
func TestAnswersAreNew(t *testing.T) {
	const src = "type A = {a int; embed b B; c C;}; type B = {}; type C = {}; method A.m(a int, b int, c int) int {a; b; c;} method A.n() int {} method A.o() int {} " +
		"func f() int {let a = P{a: b, b: c, c: d}; a.b(c, d, e); if a {b; c; d;} else {e; f; g;}} func g() int {} func h() int {} main fn(int, int) int {}"
	first, err := parse.Program(src)
	if err != nil {
		t.Fatal(err)
	}
	want := showProgram(first)
	other, _ := parse.Program(src)
	spoilProgram(other)
	if showProgram(first) != want {
		t.Error("another answer was turned")
	}
	if again, _ := parse.Program(src); showProgram(again) != want {
		t.Error("a later answer was turned")
	}
	spareProgram(first)
	if showProgram(first) != want {
		t.Error("two lists share memory")
	}
}

// spare writes into the room behind a list.
func spare[T any](l []T) { clear(l[len(l):cap(l)]) }

func spareTypes(l []api.Type) {
	spare(l)
	for _, x := range l {
		spare(x.Names)
		spare(x.Embeds)
		spareTypes(x.Parts)
	}
}

func spareExprs(l []api.Expr) {
	spare(l)
	for _, x := range l {
		spare(x.Names)
		spareTypes(x.T)
		spareExprs(x.Parts)
	}
}

func spareStmts(l []api.Stmt) {
	spare(l)
	for _, s := range l {
		spareTypes(s.T)
		spareExprs(s.X)
		spareStmts(s.Body)
		spareStmts(s.Else)
	}
}

func spareCodes(l []api.Code) {
	spare(l)
	for _, c := range l {
		spare(c.Params)
		spareTypes(c.Result.Parts)
		spareStmts(c.Body)
	}
}

func spareProgram(p api.Program) {
	spare(p.Defs)
	for _, d := range p.Defs {
		spareTypes([]api.Type{d.T})
	}
	spareCodes(p.Methods)
	spareCodes(p.Funcs)
	spareCodes([]api.Code{p.Main})
}

// spoilProgram writes over the lists of a program.
func spoilProgram(p api.Program) {
	for _, d := range p.Defs {
		clear(d.T.Names)
		clear(d.T.Embeds)
		clear(d.T.Parts)
	}
	for _, c := range p.Funcs {
		for _, s := range c.Body {
			clear(s.X[0].Names)
			clear(s.X[0].Parts)
			clear(s.Body)
		}
		clear(c.Body)
	}
	clear(p.Methods)
	clear(p.Funcs)
	clear(p.Main.Result.Parts)
	clear(p.Defs)
}
