package interp_test

import (
	"math/rand"
	"slices"
	"strconv"
	"strings"

	"coil/api"
	"coil/check"
	"coil/subtype"
)

// maker makes programs and values by chance, the same ones each time.
type maker struct {
	*rand.Rand
	self      string // the owner of the method in which it is; none, if it is in no method
	variables []typed
	made      int // of variables
	result    string
}

type typed struct{ name, typ string }

func one[T any](m *maker, l []T) T { return l[m.Intn(len(l))] }

// kinds are the types that variables have, and of each the ways to make a value of it: the first one ends there, in the
// others the types in < > are made again. (The parentheses make no tree of their own.)
func kinds() map[string]string {
	return map[string]string{
		"int":         "1|7|(<A>).x|(<B>).x|(<*A>).x|(<C>).x|(<E>).x|(<I>).m()|(<I>).m()|(<A>).m()|(<C>).m()|(<D>).m()|(<K>).m()|(<F>).m()|(<F>).z|-(<int>)|(<int>) * (<int>)|(<int>) + (<int>)|(<int>) - (<int>)|(<fn(int) int>)(<int>)|(<L>).n|(<*L>).n|f(<int>, <I>)|(<int>) to T to int",
		"text":        "\"a\"|\"\"|(<text>) + (<text>)|(<text>) + \"" + strings.Repeat("long", 60) + "\"|(<B>).y|(<text>) + \"b\"|(<text>) to T to text|(<text>) + (<text>) + \"" + strings.Repeat("more", 60) + "\"|h(<text>)",
		"bool":        "true|(<int>) < (<int>)|(<text>) < (<text>)|(<int>) == (<int>)|(<text>) == (<text>)|(<bool>) == (<bool>)|not (<bool>)|(<bool>) and (<bool>)|(<bool>) or (<bool>)|false",
		"A":           "A{x: 2}|A{x: <int>}|Q{x: <int>}|(<B>).a|g(<I>)|(<A>) to J to A|(<K>).a|(<fn(A) A>)(<A>)",
		"B":           "B{a: A{x: 3}, y: \"y\"}|B{y: <text>, a: <A>}|B{a: <A>, y: <text>}",
		"C":           "C{a: new A{x: 4}}|C{a: <*A>}|(<*C>) to T to C|(<E>).c to T to C",
		"D":           "D{i: A{x: 5}}|D{i: <I>}|D{i: <J>}|D{i: <D>}",
		"E":           "E{c: new C{a: new A{x: 6}}}|E{c: <*C>}",
		"F":           "F{d: new D{i: A{x: 7}}, z: 1}|F{z: <int>, d: <*D>}",
		"K":           "K{a: A{x: 8}, i: A{x: 9}}|K{i: <I>, a: <A>}|K{a: <A>, i: <I>}",
		"L":           "L{n: 1, next: nil *L}|L{n: <int>, next: <*L>}",
		"W":           "W{a: A{x: 1}, f: s, p: nil *W}|W{a: <I>, p: <*W>, f: <fn(A) I>}|X{a: <A>, f: <fn(A) A>, p: nil *X}|(<W>) to T to W",
		"*A":          "new A{x: 2}|new A{x: <int>}|new Q{x: <int>}|nil *A|(<C>).a|(<E>).a|(<*A>) to I to *A",
		"*C":          "new C{a: new A{x: 4}}|new C{a: <*A>}|(<E>).c|nil *C",
		"*D":          "new D{i: A{x: 4}}|new D{i: <I>}|(<F>).d|nil *D",
		"*L":          "new L{n: 5, next: nil *L}|new L{n: <int>, next: <*L>}|(<L>).next|(<*L>).next|nil *L",
		"*W":          "nil *W|new W{a: <I>, p: <*W>, f: <fn(A) I>}|new X{p: nil *X, a: <A>, f: <fn(A) A>}|(<W>).p",
		"I":           "A{x: 1}|<A>|<*A>|<B>|<C>|<D>|<*D>|<K>|<J>|<F>|<E>|(<D>).i|(<F>).i|(<T>) to T to I|(<W>).a|((<W>).f)(<A>)|((<fn(A) I>))(<A>)",
		"J":           "A{x: 1}|<A>|<*A>|<B>|<C>|<E>|(<J>).n(<I>)|(<A>).n(<I>)|(<C>).n(<I>)|(<E>).n(<I>)|(<B>).n(<J>)|(<I>) to T to J|(<T>) to T to J",
		"T":           "1|<int>|<text>|<bool>|<A>|<I>|<*A>|<*L>|<fn(int) int>|<fn(A) A>|V{}|new V{}|<D>|<W>|<*W>|k(<T>)",
		"fn(int) int": "one|two|(<fn(int) int>) to T to fn(int) int",
		"fn(A) A":     "s|(<fn(A) I>) to T to fn(A) A|g",
		"fn(A) I":     "s|g|<fn(A) A>|(<W>).f|(<fn(A) A>) to T to fn(A) I",
	}
}

// names are the types, in their order.
func names() []string {
	var l []string
	for name := range kinds() {
		l = append(l, name)
	}
	slices.Sort(l)
	return l
}

// expr is an expression of a type.
func (m *maker) expr(typ string, room int) string {
	var l []string
	for _, v := range m.variables {
		if v.typ == typ {
			l = append(l, v.name)
		}
	}
	if m.self == typ {
		l = append(l, "self", "self")
	}
	if len(l) > 0 && m.Intn(5) < 3 {
		return one(m, l)
	}
	ways := strings.Split(kinds()[typ], "|")
	if m.hides() {
		ways = slices.DeleteFunc(ways, func(w string) bool { return w == "two" })
	}
	if room <= 0 {
		return ways[0]
	}
	words := strings.Split(one(m, ways), "<")
	text := words[0]
	for _, w := range words[1:] {
		if part, rest, ok := strings.Cut(w, ">"); ok {
			text += m.expr(part, room-1) + rest
		} else {
			text += "<" + w
		}
	}
	return text
}

// block is statements, whose variables are forgotten in the end.
func (m *maker) block(room int) string {
	before := len(m.variables)
	text := ""
	for range 1 + m.Intn(3) {
		text += m.stmt(room) + " "
	}
	m.variables = m.variables[:before]
	return "{ " + text + "}"
}

// hides: is there a variable that has a function's name?
func (m *maker) hides() bool {
	return slices.ContainsFunc(m.variables, func(v typed) bool { return v.name == "two" })
}

func (m *maker) fresh(typ string) string {
	m.made++
	name := "v" + strconv.Itoa(m.made)
	m.variables = append(m.variables, typed{name, typ})
	return name
}

func (m *maker) stmt(room int) string {
	typ := one(m, append(names(), "text", "text", "text", "text"))
	switch m.Intn(12) {
	case 0, 1, 2:
		x := m.expr(typ, 2)
		if m.Intn(9) == 0 && !m.hides() {
			m.variables = append(m.variables, typed{"two", typ}) // it hides a function
			return "let two " + typ + " = " + x + ";"
		}
		return "let " + m.fresh(typ) + " " + typ + " = " + x + ";"
	case 3, 4:
		if len(m.variables) > 0 {
			v := one(m, m.variables)
			return v.name + " = " + m.expr(v.typ, 3) + ";"
		}
	case 5:
		if room > 0 {
			return "if " + m.expr("bool", 2) + " " + m.block(room-1) + " else " + m.block(room-1)
		}
	case 6:
		if room > 0 {
			return "while " + m.expr("bool", 2) + " " + m.block(room-1)
		}
	case 7, 8:
		if room > 0 {
			name := "k" + strconv.Itoa(m.made)
			m.made++
			body := m.block(room - 1)
			return "let " + name + " = 0; while " + name + " < " + strconv.Itoa(2+m.Intn(12)) + " { " + name + " = " + name + " + 1; if true " + body + " }"
		}
	case 9, 11:
		if l := slices.DeleteFunc(slices.Clone(m.variables), func(v typed) bool { return v.typ != "text" }); len(l) > 0 {
			name := one(m, l).name
			return name + " = " + strings.Repeat(name+" + ", 1+m.Intn(4)) + name + ";"
		}
		return "(" + m.expr(typ, 3) + ");"
	case 10:
		if room < 2 && m.result != "" {
			return "if " + m.expr("bool", 2) + " { return " + m.expr(m.result, 2) + "; }"
		}
	}
	return "print " + m.expr(typ, 2) + ";"
}

// code is a method, function or main one with that head; its parameters are words of a name and a type.
func (m *maker) code(word, result string, params ...string) string {
	m.self, m.variables, m.result = "", nil, result
	if owner, ok := strings.CutPrefix(word, "method "); ok {
		m.self, _, _ = strings.Cut(owner, ".")
	}
	for _, p := range params {
		name, typ, _ := strings.Cut(p, " ")
		m.variables = append(m.variables, typed{name, typ})
	}
	head := word + "(" + strings.Join(params, ", ") + ") "
	if word == "main" {
		head = "main "
	}
	text := ""
	for range m.Intn(4) {
		text += m.stmt(2) + " "
	}
	return head + result + " { " + text + "return " + m.expr(result, 2) + "; } "
}

// program has set's types, with methods by chance, and functions.
func (m *maker) program() string {
	return "type I = interface {m() int;}; type J = interface {m() int; n(I) J;}; type T = interface {}; type A = {x int;}; type B = {embed a A; y text;}; type C = {embed a *A;}; type D = {embed i I;}; type E = {embed c *C;}; type F = {embed d *D; z int;}; " +
		"type K = {embed a A; embed i I;}; type L = {n int; next *L;}; type Q = A; type V = {}; type W = {a I; f fn(A) I; p *W;}; type X = {a A; f fn(A) A; p *X;}; " +
		m.code("method A.m", "int") + m.code("method A.n", "J", "i I") + m.code("method K.m", "int") + m.code("method L.m", "int") +
		m.code("func f", "int", "n int", "i I") + m.code("func g", "A", "i I") + m.code("func h", "text", "t text") + m.code("func k", "T", "t T") + m.code("func s", "A", "a A") + m.code("func one", "int", "n int") + m.code("func two", "int", "n int") +
		m.code("func w", "W", "w W", "p *W") + m.code("main", one(m, names()))
}

// args are as many values as the function takes, or almost; sound ones, or almost.
func (m *maker) args(c *check.Checked, ref *reference, f api.Code) []api.Value {
	v := values{maker: m, Relation: subtype.New(c.Classes()), funcs: ref.program.Funcs}
	var args []api.Value
	v.spoils = m.Intn(2) == 0
	for _, p := range f.Params {
		args = append(args, v.of(ref.id(p.T), 3))
	}
	if m.Intn(20) == 0 {
		args = append(args, v.of(m.Intn(c.Classes().Len()), 1))
	}
	return args
}

// values are made by chance.
type values struct {
	*maker
	*subtype.Relation
	funcs  []api.Code
	spoils bool // now and then one is wrong
}

// of is a value whose class is below that one, most often.
func (v values) of(class, room int) api.Value {
	var below []int
	for a := range v.Len() {
		if ok, _ := v.Below(a, class); ok && !strings.HasPrefix(v.Label(a), "interface") || v.spoils && v.Intn(400) == 0 {
			below = append(below, a)
		}
	}
	if len(below) > 0 {
		class = one(v.maker, below)
	}
	word, _, _ := strings.Cut(v.Label(class), " ")
	x := api.Value{Class: class}
	switch word {
	case "int":
		x.Kind, x.N = api.VInt, v.Intn(9)-2
	case "bool":
		x.Kind, x.N = api.VBool, v.Intn(2)
	case "text":
		x.Kind, x.S = api.VText, one(v.maker, []string{"", "a", "b\n"})
	case "record":
		x.Kind = api.VRec
		for _, child := range v.Children(class) {
			x.Parts = append(x.Parts, v.of(child, room-1))
		}
	case "*":
		x.Kind = api.VPtr
		to := v.Children(class)[0]
		if room > 0 && strings.HasPrefix(v.Label(to), "record") && v.Intn(5) > 0 {
			p := api.Value{Kind: api.VRec, Class: to}
			for _, child := range v.Children(to) {
				p.Parts = append(p.Parts, v.of(child, room-1))
			}
			x.Parts = []api.Value{p}
		}
	default:
		x.Kind, x.S = api.VFn, one(v.maker, v.funcs).Name
	}
	return x
}
