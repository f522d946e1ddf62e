package parse_test

import (
	"errors"
	"regexp"
	"strconv"
	"strings"
	"testing"

	"coil/api"
	"coil/lex"
	"coil/parse"
	"coil/syntax"
)

// The names of the kinds, by their numbers; kind 0 is none.
var (
	typeKinds = strings.Fields("NONE int bool text name ptr rec fn iface")
	exprKinds = strings.Fields("NONE int text bool var self nil rec new field call apply to neg not mul add sub eq less and or")
	stmtKinds = strings.Fields("NONE let set print if while return do")
)

// field tells what a field says behind a mark, or nothing, if it is zero, so that each field that is set is seen.
func field(mark, says string) string {
	if says == "" {
		return ""
	}
	return mark + says
}

func many[T any](open string, l []T, show func(T) string, end string) string {
	if len(l) == 0 {
		return ""
	}
	var parts []string
	for _, x := range l {
		parts = append(parts, show(x))
	}
	return open + strings.Join(parts, " ") + end
}

func place(p api.Place) string { return "@" + strconv.Itoa(p.Where()) }

func plain(s string) string { return s }

func showType(t api.Type) string {
	return typeKinds[t.Kind] + field(":", t.Name) + many("[", t.Names, plain, "]") +
		many("!", t.Embeds, strconv.FormatBool, "") + many("(", t.Parts, showType, ")")
}

func showExpr(x api.Expr) string {
	n := ""
	if x.N != 0 {
		n = "#" + strconv.Itoa(x.N)
	}
	return exprKinds[x.Kind] + field(":", x.S) + n + many("<", x.T, showType, ">") +
		many("[", x.Names, plain, "]") + place(x.Place) + many("(", x.Parts, showExpr, ")")
}

func showStmt(s api.Stmt) string {
	return stmtKinds[s.Kind] + field(":", s.Name) + many("<", s.T, showType, ">") + place(s.Place) +
		many("(", s.X, showExpr, ")") + many("{", s.Body, showStmt, "}") + many("else{", s.Else, showStmt, "}")
}

func showStmts(l []api.Stmt) string { return many("", l, showStmt, "") }

func showParam(p api.Param) string { return p.Name + ":" + showType(p.T) }

func showCode(c api.Code) string {
	return "code" + field(":", c.Owner) + field(".", c.Name) + place(c.Place) +
		many("(", c.Params, showParam, ")") + showType(c.Result) + many("{", c.Body, showStmt, "}")
}

func showDef(d api.Def) string { return "def:" + d.Name + place(d.Place) + showType(d.T) }

func showProgram(p api.Program) string {
	return many("", p.Defs, showDef, " ") + many("methods ", p.Methods, showCode, " ") +
		many("funcs ", p.Funcs, showCode, " ") + "main " + showCode(p.Main)
}

// entry is one of the package's calls: the rule that it reads, its answer as a text, and what it answers beside a refusal.
type entry struct {
	rule string
	read func(src string) (string, error)
	none string
	// write is the text that syntax writes of what is read; of Defs' it writes none.
	write func(src string) (string, api.Errno)
}

func entries() []entry {
	return []entry{
		{"<type>", func(src string) (string, error) {
			t, err := parse.Type(src)
			return showType(t), err
		}, "NONE", func(src string) (string, api.Errno) {
			t, _ := parse.Type(src)
			return syntax.Type(t)
		}},
		{"<expr>", func(src string) (string, error) {
			x, err := parse.Expr(src)
			return showExpr(x), err
		}, "NONE@0", func(src string) (string, api.Errno) {
			x, _ := parse.Expr(src)
			return syntax.Expr(x)
		}},
		{"<stmts>", func(src string) (string, error) {
			l, err := parse.Stmts(src)
			return showStmts(l), err
		}, "", func(src string) (string, api.Errno) {
			l, _ := parse.Stmts(src)
			return syntax.Stmts(l...)
		}},
		{"<program>", func(src string) (string, error) {
			p, err := parse.Program(src)
			return showProgram(p), err
		}, "main code@0NONE", func(src string) (string, api.Errno) {
			p, _ := parse.Program(src)
			return syntax.Program(p)
		}},
		{"<defs>", func(src string) (string, error) {
			d, m, err := parse.Defs(src)
			return many("", d, showDef, " ") + many("methods ", m, showCode, ""), err
		}, "", nil},
	}
}

func entryOf(rule string) entry {
	for _, e := range entries() {
		if e.rule == rule {
			return e
		}
	}
	panic("no entry " + rule)
}

// reads fails, unless src is read as that tree.
func reads(t *testing.T, e entry, src, want string) {
	t.Helper()
	got, err := e.read(src)
	if err != nil || got != want {
		t.Errorf("%s %.80q: %s, %v, not %s", e.rule, src, got, err, want)
	}
}

// refused fails, unless src is refused with that number at that place, and with nothing beside it.
func refused(t *testing.T, e entry, src string, at int, why api.Errno) {
	t.Helper()
	got, err := e.read(src)
	if got != e.none || !isRefusal(err, at, why) {
		t.Errorf("%s %.80q: %s, %v, not %v at %d", e.rule, src, got, err, why, at)
	}
}

// isRefusal: is err a *lex.Refusal with that place, and with that number alone?
func isRefusal(err error, at int, why api.Errno) bool {
	r, ok := err.(*lex.Refusal)
	if !ok || r.Where() != at || r.Why != why || r.Error() == "" {
		return false
	}
	for n := range api.Errno(70) {
		if errors.Is(err, n) != (n == why) {
			return false
		}
	}
	return true
}

// allRefuse fails, unless each of the calls refuses src with that number at that place.
func allRefuse(t *testing.T, src string, at int, why api.Errno) {
	t.Helper()
	for _, e := range entries() {
		refused(t, e, src, at, why)
	}
}

var placePattern = regexp.MustCompile(`@(\d+)`)

// placeless is a tree's text without its places.
func placeless(tree string) string { return placePattern.ReplaceAllString(tree, "") }
