package parse_test

import (
	"testing"

	"coil/api"
	"coil/parse"
)

// TestTypes: P3.2, each kind of type, with none, one and several parts.
func TestTypes(t *testing.T) {
	e := entryOf("<type>")
	for src, want := range map[string]string{
		"*{a int; embed b B;}":                "ptr(rec[a b]!false true(int name:B))",
		"int":                                 "int",
		"bool":                                "bool",
		"text":                                "text",
		"A":                                   "name:A",
		"*A":                                  "ptr(name:A)",
		"**int":                               "ptr(ptr(int))",
		"{}":                                  "rec",
		"{a int;}":                            "rec[a]!false(int)",
		"{embed a A;}":                        "rec[a]!true(name:A)",
		"{a {a {a int;};};}":                  "rec[a]!false(rec[a]!false(rec[a]!false(int)))",
		"{embed a *A; b fn() B; embed c {};}": "rec[a b c]!true false true(ptr(name:A) fn(name:B) rec)",
		"fn() int":                            "fn(int)",
		"fn(A) B":                             "fn(name:A name:B)",
		"fn(A, *B, {}) fn() C":                "fn(name:A ptr(name:B) rec fn(name:C))",
		"*fn(fn(A) B) *C":                     "ptr(fn(fn(name:A name:B) ptr(name:C)))",
		"interface {}":                        "iface",
		"interface {a() B;}":                  "iface[a](fn(name:B))",
		"interface {a(int) B; b(A, fn() int) *A;}": "iface[a b](fn(int name:B) fn(name:A fn(int) ptr(name:A)))",
		"interface {a(interface {a() int;}) {};}":  "iface[a](fn(iface[a](fn(int)) rec))",
		"int // a remark at the end is no token":   "int",
	} {
		reads(t, e, src, want)
	}
}

// TestExprRuns: the chapter's runs and examples of expressions.
func TestExprRuns(t *testing.T) {
	e := entryOf("<expr>")
	reads(t, e, "1+2*3", "add@1(int#1@0 mul@3(int#2@2 int#3@4))")
	reads(t, e, "(1+2)*3", "mul@5(add@2(int#1@1 int#2@3) int#3@6)")
	reads(t, e, "a.b(c).d to T", "to<name:T>@9(field:d@6(call:b@1(var:a@0 var:c@4)))")
	reads(t, e, "not a == b", "eq@6(not@0(var:a@4) var:b@9)")
	reads(t, e, "- a.b", "neg@0(field:b@3(var:a@2))")
	reads(t, e, "x to *T", "to<ptr(name:T)>@2(var:x@0)")
	refused(t, e, "a == b == c", 7, api.ErrToken)
	refused(t, e, "new P{x: 1, x: 2}", 12, api.ErrTwice)
	refused(t, e, "P{x 1}", 4, api.ErrToken)
	refused(t, e, "P{", 2, api.ErrEnd)
}

// TestPrimaries: P3.2, each kind of primary and its place.
func TestPrimaries(t *testing.T) {
	e := entryOf("<expr>")
	for src, want := range map[string]string{
		"0":                         "int@0",
		"9223372036854775807":       "int#9223372036854775807@0",
		`""`:                        "text@0",
		`"a\n+"`:                    "text:a\n+@0",
		`"("`:                       "text:(@0",
		`"self"`:                    "text:self@0",
		"true":                      "bool#1@0",
		"false":                     "bool@0",
		"a":                         "var:a@0",
		"self":                      "self@0",
		"nil A":                     "nil<name:A>@0",
		"nil *{a int;}":             "nil<ptr(rec[a]!false(int))>@0",
		"P{}":                       "rec:P@0",
		"P{a: 1}":                   "rec:P[a]@0(int#1@5)",
		"P{a: 1, b: x or y}":        "rec:P[a b]@0(int#1@5 or@13(var:x@11 var:y@16))",
		"new P{}":                   "new:P@0",
		" new P{a: -1, b: P{a: 2}}": "new:P[a b]@1(neg@10(int#1@11) rec:P[a]@17(int#2@22))",
		"(a)":                       "var:a@1",
		"( ( (7) ) )":               "int#7@5",
		" (P{})":                    "rec:P@2",
	} {
		reads(t, e, src, want)
	}
}

// TestPostfixes: P3.2, what stands behind a primary: its place is that of its dot, parenthesis or word.
func TestPostfixes(t *testing.T) {
	e := entryOf("<expr>")
	for src, want := range map[string]string{
		"a.b":             "field:b@1(var:a@0)",
		"a . b . c":       "field:c@6(field:b@2(var:a@0))",
		"a.b()":           "call:b@1(var:a@0)",
		"a.b ()":          "call:b@1(var:a@0)",
		"a.b(1, 2)":       "call:b@1(var:a@0 int#1@4 int#2@7)",
		"a.b()()":         "apply@5(call:b@1(var:a@0))",
		"(a.b)()":         "apply@5(field:b@2(var:a@1))",
		"(a).b()":         "call:b@3(var:a@1)",
		"a()":             "apply@1(var:a@0)",
		"a(b, c)":         "apply@1(var:a@0 var:b@2 var:c@5)",
		"a(b)(c)":         "apply@4(apply@1(var:a@0 var:b@2) var:c@5)",
		"a(b).c":          "field:c@4(apply@1(var:a@0 var:b@2))",
		"a to A":          "to<name:A>@2(var:a@0)",
		"a to A to *B":    "to<ptr(name:B)>@7(to<name:A>@2(var:a@0))",
		"a to A.b":        "field:b@6(to<name:A>@2(var:a@0))",
		"x to fn() A (y)": "apply@12(to<fn(name:A)>@2(var:x@0) var:y@13)",
		"nil A(b)":        "apply@5(nil<name:A>@0 var:b@6)",
		"P{}.a":           "field:a@3(rec:P@0)",
		"new P{}.a(1)":    "call:a@7(new:P@0 int#1@10)",
		"1.a":             "field:a@1(int#1@0)",
		"self.a":          "field:a@4(self@0)",
		"(1 or 2).a":      "field:a@8(or@3(int#1@1 int#2@6))",
		"(-1)(2)":         "apply@4(neg@1(int#1@2) int#2@5)",
		"a(- b, not c)":   "apply@1(var:a@0 neg@2(var:b@4) not@7(var:c@11))",
	} {
		reads(t, e, src, want)
	}
}

// TestOperators: P3.2, what binds to the left, and what binds more; the place is the sign's.
func TestOperators(t *testing.T) {
	e := entryOf("<expr>")
	for src, want := range map[string]string{
		"a or b":              "or@2(var:a@0 var:b@5)",
		"a and b":             "and@2(var:a@0 var:b@6)",
		"a == b":              "eq@2(var:a@0 var:b@5)",
		"a==b":                "eq@1(var:a@0 var:b@3)",
		"a < b":               "less@2(var:a@0 var:b@4)",
		"a + b":               "add@2(var:a@0 var:b@4)",
		"a - b":               "sub@2(var:a@0 var:b@4)",
		"a * b":               "mul@2(var:a@0 var:b@4)",
		"1-2-3":               "sub@3(sub@1(int#1@0 int#2@2) int#3@4)",
		"1-2+3":               "add@3(sub@1(int#1@0 int#2@2) int#3@4)",
		"1*2*3":               "mul@3(mul@1(int#1@0 int#2@2) int#3@4)",
		"a or b or c":         "or@7(or@2(var:a@0 var:b@5) var:c@10)",
		"a and b and c":       "and@8(and@2(var:a@0 var:b@6) var:c@12)",
		"1-(2-3)":             "sub@1(int#1@0 sub@4(int#2@3 int#3@5))",
		"(a==b)==c":           "eq@6(eq@2(var:a@1 var:b@4) var:c@8)",
		"a<(b<c)":             "less@1(var:a@0 less@4(var:b@3 var:c@5))",
		"a==b and c<d":        "and@5(eq@1(var:a@0 var:b@3) less@10(var:c@9 var:d@11))",
		"- - 1":               "neg@0(neg@2(int#1@4))",
		"not - not a":         "not@0(neg@4(not@6(var:a@10)))",
		"-a*b":                "mul@2(neg@0(var:a@1) var:b@3)",
		"a*-b":                "mul@1(var:a@0 neg@2(var:b@3))",
		"a - - b":             "sub@2(var:a@0 neg@4(var:b@6))",
		"- a to A":            "neg@0(to<name:A>@4(var:a@2))",
		"not (a == b)":        "not@0(eq@7(var:a@5 var:b@10))",
		"a or b and c==d+e*f": "or@2(var:a@0 and@7(var:b@5 eq@12(var:c@11 add@15(var:d@14 mul@17(var:e@16 var:f@18)))))",
		"a*b+c==d and e or f": "or@15(and@9(eq@5(add@3(mul@1(var:a@0 var:b@2) var:c@4) var:d@7) var:e@13) var:f@18)",
	} {
		reads(t, e, src, want)
	}
}

// TestStmts: P3.2, each kind of statement, its place that of its first token; none.
func TestStmts(t *testing.T) {
	e := entryOf("<stmts>")
	for src, want := range map[string]string{
		"":                       "",
		" // nothing":            "",
		"a = 1; a.b();":          "set:a@0(int#1@4) do@7(call:b@8(var:a@7))",
		"a;":                     "do@0(var:a@0)",
		"a == b;":                "do@0(eq@2(var:a@0 var:b@5))",
		"a (b);":                 "do@0(apply@2(var:a@0 var:b@3))",
		"(a);":                   "do@0(var:a@1)",
		"1 + 2;":                 "do@0(add@2(int#1@0 int#2@4))",
		"-1; not a; P{}; \"a\";": "do@0(neg@0(int#1@1)) do@4(not@4(var:a@8)) do@11(rec:P@11) do@16(text:a@16)",
		"let a = x;":             "let:a@0(var:x@8)",
		"let a *A = x;":          "let:a<ptr(name:A)>@0(var:x@11)",
		"let a {} = x;":          "let:a<rec>@0(var:x@11)",
		"print x;":               "print@0(var:x@6)",
		" return x;":             "return@1(var:x@8)",
		"if a {}":                "if@0(var:a@3)",
		"if a {} else {}":        "if@0(var:a@3)",
		"if a {b;}":              "if@0(var:a@3){do@6(var:b@6)}",
		"if a {} else {b;}":      "if@0(var:a@3)else{do@14(var:b@14)}",
		"if a {b; c = d;} else {e; f;} g;": "if@0(var:a@3){do@6(var:b@6) set:c@9(var:d@13)}" +
			"else{do@23(var:e@23) do@26(var:f@26)} do@30(var:g@30)",
		"if a {} if b {} else {}":         "if@0(var:a@3) if@8(var:b@11)",
		"if a {if b {}} else {c;}":        "if@0(var:a@3){if@6(var:b@9)}else{do@21(var:c@21)}",
		"if P{} {}":                       "if@0(rec:P@3)",
		"if nil A {b;}":                   "if@0(nil<name:A>@3){do@10(var:b@10)}",
		"if a to A {b;}":                  "if@0(to<name:A>@5(var:a@3)){do@11(var:b@11)}",
		"while a {}":                      "while@0(var:a@6)",
		"while a to {} {b;}":              "while@0(to<rec>@8(var:a@6)){do@15(var:b@15)}",
		"while a {while b {c;} print d;}": "while@0(var:a@6){while@9(var:b@15){do@18(var:c@18)} print@22(var:d@28)}",
	} {
		reads(t, e, src, want)
	}
	refused(t, e, "a = ;", 4, api.ErrToken)
}

// TestPrograms: P3.2, definitions, methods and functions in the order of the text, each sort by itself; places.
func TestPrograms(t *testing.T) {
	e := entryOf("<program>")
	reads(t, e, "main int { return 0; }", "main code@0int{return@11(int@18)}")
	reads(t, e, " main {} {}", "main code@1rec")
	reads(t, e, "type A = int; type B = *A; main A {}", "def:A@0int def:B@14ptr(name:A) main code@27name:A")
	reads(t, e, "func f() A {} func g(a int, b B) *A {a;} main A {}",
		"funcs code.f@0name:A code.g@14(a:int b:name:B)ptr(name:A){do@37(var:a@37)} main code@41name:A")
	reads(t, e, "method A.m() A {} method B.m(a {}) fn() A {a; b;} main A {}",
		"methods code:A.m@0name:A code:B.m@18(a:rec)fn(name:A){do@43(var:a@43) do@46(var:b@46)} main code@50name:A")
	reads(t, e, "func f() A {} type A = int; method A.m() A {} func g() A {} type A = text; method A.m() B {} main A {}",
		"def:A@14int def:A@60text methods code:A.m@28name:A code:A.m@75name:B funcs code.f@0name:A code.g@46name:A main code@93name:A")
	refused(t, e, "", 0, api.ErrEnd)
	refused(t, e, " // no", 6, api.ErrEnd)
	refused(t, e, "type A = int;", 13, api.ErrEnd)
	refused(t, e, "main int { return 0; } x", 23, api.ErrToken)
	refused(t, e, "main int {} main int {}", 12, api.ErrToken)
	refused(t, e, "main int {} type A = int;", 12, api.ErrToken)
}

// TestDefs: P3.2, of each text its definitions and methods, each with its place in its own text; functions and main are none.
func TestDefs(t *testing.T) {
	check := func(want string, srcs ...string) {
		t.Helper()
		d, m, err := parse.Defs(srcs...)
		if got := many("", d, showDef, " ") + many("methods ", m, showCode, ""); err != nil || got != want {
			t.Errorf("%q: %s, %v, not %s", srcs, got, err, want)
		}
	}
	check("")
	check("", []string{}...)
	check("", "", "// a", "")
	check("def:A@0rec ", "type A = {};")
	check("methods code:A.m@1(a:int)int{do@23(var:a@23)}", " method A.m(a int) int{a;}")
	check("def:A@0rec def:B@20name:A def:C@0int methods code:A.m@0int code:C.n@14int",
		"type A = {};", "", "method A.m() int {} type B = A;", "type C = int; method C.n() int {}")
	check("def:A@0int def:A@0int def:A@14text ", "type A = int;", "type A = int; type A = text;")
	e := entryOf("<defs>")
	refused(t, e, "func f() int {}", 0, api.ErrToken)
	refused(t, e, "main int {}", 0, api.ErrToken)
	refused(t, e, "type A = int; func f() int {}", 14, api.ErrToken)
	refused(t, e, "method A.m() int {} main int {}", 20, api.ErrToken)
	refused(t, e, "a", 0, api.ErrToken)
}

// TestDefsFirstError: P3.2, the first error of the first text that has one, whatever the texts ahead of it and behind it hold.
func TestDefsFirstError(t *testing.T) {
	for _, c := range []struct {
		at   int
		why  api.Errno
		srcs []string
	}{
		{0, api.ErrToken, []string{"type A = {};", "func f() int {}", "?"}},
		{9, api.ErrEnd, []string{"", "type A = ", "type"}},
		{14, api.ErrToken, []string{"type A = {a int; b int;};", " type A = {a  ; ", "7"}},
		{15, api.ErrTwice, []string{"type A = {a int;};", "type B = {a A; a", "7"}},
		{2, api.ErrByte, []string{"type A = int;", "7 #", "7", "#"}},
		{22, api.ErrTwice, []string{"type A = {a int;};", "method A.m(a int, b A,a int) int {}"}},
		{0, api.ErrToken, []string{"type A = int;", "type B = int;", ";"}},
		{5, api.ErrEnd, []string{"type ", "A = int;"}},
	} {
		d, m, err := parse.Defs(c.srcs...)
		if len(d) != 0 || len(m) != 0 || !isRefusal(err, c.at, c.why) {
			t.Error(c.srcs, d, m, err)
		}
	}
}
