package machine_test

import (
	"maps"
	"math/rand"
	"slices"
	"strconv"
	"strings"

	"coil/api"
)

// maker makes programs by chance, the same ones each time.
type maker struct {
	*rand.Rand
	self      string // the owner of the method in which it is; none, if it is in no method
	result    string
	variables []typed // those that are known at the place that it has come to
}

type typed struct{ name, typ string }

func newMaker(seed int64) *maker { return &maker{Rand: rand.New(rand.NewSource(seed))} }

func one[T any](m *maker, l []T) T { return l[m.Intn(len(l))] }

// types are those that variables have, and of each the ways to make a value of it: the first one ends there, in the others
// the types in < > are made again. (The parentheses make no tree of their own.)
func types() map[string]string {
	return map[string]string{
		"int":         "1|7|(<P>).m()|(<A>).x|(<B>).x|(<*A>).x|(<E>).x|(<I>).m()|(<J>).m()|(<G>).m()|(<D>).m()|(<F>).m()|(<K>).m()|(<A>).m()|(<E>).m()|(<H>).i.m()|(<*H>).j.m()|(<F>).z|-(<int>)|(<int>) * (<int>)|(<int>) + (<int>)|(<int>) - (<int>)|(<fn(int) int>)(<int>)|f(<int>, <I>)|(<int>) to T to int",
		"text":        `"a"|""|(<J>).k()|(<G>).k()|(<H>).j.k()|(<A>).k()|(<B>).k()|(<B>).y|(<text>) + (<text>)|long() + long()|(<text>) + long() + long()|(<text>) + long()|(<T>) to T to text|h(<text>)`,
		"bool":        "true|false|(<int>) < (<int>)|(<text>) < (<text>)|(<int>) == (<int>)|(<text>) == (<text>)|(<bool>) == (<bool>)|not (<bool>)|(<bool>) and (<bool>)|(<bool>) or (<bool>)",
		"A":           "A{x: 2}|A{x: <int>}|Q{x: <int>}|(<B>).a|(<K>).a|(<J>) to J to A|g(<I>)|(<fn(A) I>)(<A>) to I to A",
		"B":           `B{a: A{x: 3}, y: "y"}|B{y: <text>, a: <A>}|B{a: <A>, y: <text>}`,
		"D":           "D{i: A{x: 5}}|D{i: <I>}|D{i: <J>}|D{i: <D>}|D{i: <G>}",
		"E":           "E{c: new C{a: new A{x: 6}}}|E{c: new C{a: <*A>}}|E{c: nil *C}",
		"F":           "F{d: new D{i: A{x: 7}}, z: 1}|F{z: <int>, d: new D{i: <I>}}|F{z: <int>, d: <*D>}",
		"G":           "G{j: A{x: 1}, w: 2}|G{w: <int>, j: <J>}|G{j: <G>, w: <int>}|G{j: <*G>, w: 1}",
		"H":           "H{i: A{x: 1}, j: A{x: 2}, h: nil *H}|H{h: <*H>, j: <J>, i: <I>}|H{i: <D>, j: <G>, h: <*H>}",
		"K":           "K{a: A{x: 8}, i: A{x: 9}}|K{i: <I>, a: <A>}|K{a: <A>, i: <I>}",
		"P":           "P{a: A{x: 1}, b: A{x: 2}, c: A{x: 3}}|P{c: <I>, b: <J>, a: <I>}|P{c: <P>, b: <P>, a: <P>}",
		"*A":          "new A{x: 2}|new Q{x: <int>}|nil *A|(<E>).a|(<*A>) to I to *A",
		"*D":          "new D{i: A{x: 4}}|new D{i: <I>}|(<F>).d|nil *D",
		"*G":          "new G{w: 1, j: A{x: 4}}|new G{j: <J>, w: <int>}|nil *G",
		"*H":          "new H{i: A{x: 1}, j: A{x: 2}, h: nil *H}|new H{j: <J>, i: <I>, h: <*H>}|(<H>).h|(<*H>).h|nil *H",
		"I":           "A{x: 1}|<A>|<*A>|<B>|<E>|<P>|<D>|<*D>|<F>|<K>|<J>|<G>|(<D>).i|(<F>).i|(<H>).i|(<T>) to T to I|(<fn(A) I>)(<A>)",
		"J":           "A{x: 1}|<A>|<*A>|<B>|<E>|<P>|<G>|<*G>|(<G>).j|(<J>).n(<I>)|(<G>).n(<I>)|(<A>).n(<I>)|(<E>).n(<J>)|(<*H>).j.n(<I>)|(<I>) to T to J|(<I>) to I to J",
		"T":           "1|<int>|<text>|<bool>|<A>|<I>|<*H>|<fn(int) int>|V{}|new V{}|<H>|k(<T>)",
		"fn(int) int": "once|twice|(<fn(int) int>) to T to fn(int) int",
		"fn(A) I":     "s|g|(<fn(A) I>) to T to fn(A) I",
	}
}

// names are the types, in their order.
func names() []string { return slices.Sorted(maps.Keys(types())) }

// expr is an expression of a type.
func (m *maker) expr(typ string, room int) string {
	var l []string
	for _, v := range m.variables {
		if v.typ == typ {
			l = append(l, v.name)
		}
	}
	if m.self == typ {
		l = append(l, "self", "self")
	}
	if len(l) > 0 && m.Intn(5) < 2 {
		return one(m, l)
	}
	ways := strings.Split(types()[typ], "|")
	if m.hides() {
		ways = slices.DeleteFunc(ways, func(w string) bool { return w == "twice" })
	}
	if room <= 0 {
		return ways[0]
	}
	return m.filled(one(m, ways), room)
}

// filled has an expression in place of each type in < >.
func (m *maker) filled(way string, room int) string {
	words := strings.Split(way, "<")
	text := words[0]
	for _, w := range words[1:] {
		if part, rest, ok := strings.Cut(w, ">"); ok {
			text += m.expr(part, room-1) + rest
		} else {
			text += "<" + w
		}
	}
	return text
}

// hides: is there a variable that has a function's name?
func (m *maker) hides() bool {
	return slices.ContainsFunc(m.variables, func(v typed) bool { return v.name == "twice" })
}

// block is statements, whose variables are forgotten in the end: their names come again.
func (m *maker) block(room int) string {
	before := len(m.variables)
	text := ""
	for range m.Intn(4) {
		text += m.stmt(room) + " "
	}
	m.variables = m.variables[:before]
	return "{ " + text + "}"
}

// let declares a variable of a name that is free there.
func (m *maker) let(typ string) string {
	x := m.expr(typ, 2)
	name := "v" + strconv.Itoa(len(m.variables))
	if m.Intn(9) == 0 && !m.hides() {
		name = "twice"
	}
	m.variables = append(m.variables, typed{name, typ})
	return "let " + name + " " + typ + " = " + x + ";"
}

func (m *maker) stmt(room int) string {
	typ := one(m, names())
	switch m.Intn(12) {
	case 0, 1, 2:
		return m.let(typ)
	case 3, 4:
		if len(m.variables) > 0 {
			v := one(m, m.variables)
			if v.typ == "none" {
				return "print 0;"
			}
			return v.name + " = " + m.expr(v.typ, 3) + ";"
		}
	case 5:
		if room > 0 {
			return "if " + m.expr("bool", 2) + " " + m.block(room-1) + " else " + m.block(room-1)
		}
	case 6:
		if room > 0 {
			return "while " + m.expr("bool", 2) + " " + m.block(room-1)
		}
	case 7, 8:
		if room > 0 {
			name := "count" + strconv.Itoa(len(m.variables))
			m.variables = append(m.variables, typed{name, "none"}) // what would be set by chance might never end
			text := "let " + name + " = 0; while " + name + " < " + strconv.Itoa(2+m.Intn(12)) + " { " + name + " = " + name + " + 1; if true " + m.block(room-1) + " }"
			m.variables[len(m.variables)-1] = typed{name, "int"}
			return text
		}
	case 9:
		return "(" + m.expr(typ, 3) + ");"
	case 10:
		if room < 2 {
			return "if " + m.expr("bool", 2) + " { return " + m.expr(m.result, 2) + "; }"
		}
	}
	return "print " + m.expr(typ, 3) + ";"
}

// code is a method, function or main one with that head; its parameters are words of a name and a type.
func (m *maker) code(word, result string, params ...string) string {
	m.self, m.variables, m.result = "", nil, result
	if owner, ok := strings.CutPrefix(word, "method "); ok {
		m.self, _, _ = strings.Cut(owner, ".")
	}
	for _, p := range params {
		name, typ, _ := strings.Cut(p, " ")
		m.variables = append(m.variables, typed{name, typ})
	}
	head := word + "(" + strings.Join(params, ", ") + ") "
	if word == "main" {
		head = "main "
	}
	text := ""
	for range m.Intn(5) {
		text += m.stmt(2) + " "
	}
	return head + result + " { " + text + "return " + m.expr(result, 2) + "; } "
}

// round is a program that goes several times through calls by interfaces, on values of many classes.
func (m *maker) round() string {
	m.self, m.variables, m.result = "", nil, "int"
	stmts := ""
	for range 3 + m.Intn(12) {
		stmts += one(m, []string{"print (<I>).m();", "print (<J>).m();", "print (<J>).k();", "print (<D>).m();", "print (<G>).k();", "i = <I>; sum = sum + i.m();", "j = <J>; j.n(i);"}) + " "
	}
	m.variables = []typed{{"sum", "int"}, {"i", "I"}, {"j", "J"}}
	return set + "type Q = A; type V = {}; func f(n int, i I) int { return n + i.m(); } func g(i I) A { return A{x: i.m()}; } func h(t text) text { return t; } func k(t T) T { return t; } func s(a A) A { return a; } func once(n int) int { return n; } func twice(n int) int { return n + n; } func long() text { return \"long\"; } " +
		"main int { let c = 0; let sum = 0; let i I = A{x: 1}; let j J = A{x: 2}; while c < " + strconv.Itoa(2+m.Intn(3)) + " { c = c + 1; " + m.filled(stmts, 3) + "} return sum; }"
}

// program has set's types, with methods by chance, and functions.
func (m *maker) program() string {
	return "type I = interface {m() int;}; type J = interface {n(I) J; m() int; k() text;}; type T = interface {}; type A = {x int;}; type B = {embed a A; y text;}; type C = {embed a *A;}; type D = {embed i I;}; type E = {embed c *C;}; type F = {z int; embed d *D;}; type G = {embed j J; w int;}; " +
		"type H = {i I; j J; h *H;}; type P = {a I; embed b J; c I;}; type K = {embed a A; embed i I;}; type Q = A; type V = {}; func long() text { return \"" + strings.Repeat("a", api.MaxString/2) + "\"; } " +
		m.code("method A.m", "int") + m.code("method K.m", "int") + m.code("method A.n", "J", "i I") + m.code("method A.k", "text") +
		m.code("func f", "int", "n int", "i I") + m.code("func g", "A", "i I") + m.code("func h", "text", "t text") + m.code("func k", "T", "t T") + m.code("func s", "A", "a A") + m.code("func once", "int", "n int") + m.code("func twice", "int", "n int") +
		m.code("main", one(m, names()))
}
