package session_test

import (
	"math/rand"
	"strconv"
	"strings"
)

// maker makes texts by chance, the same ones each time.
type maker struct{ *rand.Rand }

func newMaker(seed int64) *maker { return &maker{rand.New(rand.NewSource(seed))} }

func one[T any](m *maker, l ...T) T { return l[m.Intn(len(l))] }

// embeddable are names that definitions have, of records and interfaces; P, F and N come to other types.
const embeddable = "A B C D I J K"

func (m *maker) name() string { return one(m, strings.Fields(embeddable+" P F N")...) }

// typ is the text of a type.
func (m *maker) typ(room int) string {
	if room == 0 {
		return one(m, "int", "bool", "text", m.name(), m.name(), m.name())
	}
	switch m.Intn(8) {
	case 0:
		return "*" + m.typ(room-1)
	case 1:
		return "fn(" + m.types(room-1) + ") " + m.typ(room-1)
	case 2:
		return m.iface(room - 1)
	case 3, 4:
		return m.record(room - 1)
	}
	return m.typ(0)
}

func (m *maker) types(room int) string {
	var l []string
	for range m.Intn(3) {
		l = append(l, m.typ(room))
	}
	return strings.Join(l, ", ")
}

func (m *maker) iface(room int) string {
	text := "interface {"
	for _, name := range m.some("m", "n", "k") {
		text += name + "(" + m.types(room) + ") " + m.typ(room) + "; "
	}
	return text + "}"
}

func (m *maker) record(room int) string {
	text := "{"
	for _, name := range m.some("x", "y", "z") {
		text += name + " " + m.typ(room) + "; "
	}
	for _, name := range m.some("e", "f") {
		if m.Intn(3) > 0 {
			text += "embed " + name + " " + one(m, "", "*") + one(m, strings.Fields("A B C D")...) + "; "
		} else {
			text += "embed " + name + " " + one(m, "I", "J", "K", m.iface(0)) + "; "
		}
	}
	return text + "}"
}

// some are a few of a list, in any order.
func (m *maker) some(l ...string) []string {
	m.Shuffle(len(l), func(i, j int) { l[i], l[j] = l[j], l[i] })
	return l[:m.Intn(len(l)+1)]
}

// items are the definitions and methods of a set.
func (m *maker) items() []string {
	items := []string{"type P = *" + m.typ(1) + ";", "type F = fn(" + m.types(1) + ") " + m.typ(1) + ";", "type N = " + one(m, "A", "P", "I", "int", "bool") + ";"}
	for _, name := range strings.Fields("A B C D") {
		if m.Intn(6) == 0 && name != "A" {
			items = append(items, "type "+name+" = A;")
			continue
		}
		items = append(items, "type "+name+" = "+m.record(1)+";")
		for _, method := range m.some("m", "n", "k") {
			params := one(m, "", "p "+m.typ(1), "p "+m.typ(1)+", q "+m.typ(1))
			items = append(items, "method "+name+"."+method+"("+params+") "+m.typ(1)+" {}")
		}
	}
	for _, name := range strings.Fields("I J K") {
		items = append(items, "type "+name+" = "+m.iface(1)+";")
	}
	return items
}

// set is the text of a set, its items in any order.
func (m *maker) set() string {
	items := m.items()
	m.Shuffle(len(items), func(i, j int) { items[i], items[j] = items[j], items[i] })
	return strings.Join(items, " ")
}

// question is a line that asks of a set; some are wrong.
func (m *maker) question() string {
	a, b := m.typ(m.Intn(3)), m.typ(m.Intn(3))
	if m.Intn(3) == 0 {
		b = one(m, "I", "J", "K", a)
	}
	switch m.Intn(30) {
	case 0:
		a = one(m, "Z", "a", "int int", "{x int; x int;}", "{embed e int;}", "", "{", "?", "*")
	case 1:
		b = one(m, "Z", "a", "int int", "{x int; x int;}", "{embed e int;}", "", "{", "?", "A | B")
	}
	blank, first := one(m, "", "", "", " ", "\t", "\r "), one(m, " ", " ", " ", " ", " ", "  ", " \t", "\t", "")
	two := one(m, "ids", "below", "below", "why", "why", "differ", "table", "table")
	switch m.Intn(9) {
	case 0:
		return blank + "id" + first + a
	case 1:
		return blank + "label" + first + a
	case 2:
		return blank + "methods" + first + a
	case 3, 4:
		return blank + "find" + one(m, " ", "\t ", "") + one(m, "m", "n", "k", "x", "y", "z", "e", "f", "Z", "|") + first + a
	case 5:
		return blank + one(m, "classes", "classes ", "classes x", "sites", "casts", "casts 1", "counts", "# x", "", "x", "run 5", "go 9", "go -0")
	}
	return blank + two + first + a + one(m, "|", " | ", " |", "| ", " ") + b
}

const shapes = "type I = interface {m() int;}; type J = interface {m() int; n(I) J;}; type T = interface {}; type A = {x int;}; type B = {embed a A; y text;}; type D = {embed i I;}; type E = {embed c *D; j J;}; type L = {n int; next *L;}; " +
	"method A.m() int { return self.x; } method A.n(i I) J { return A{x: i.m()}; } method B.m() int { print self.y; return self.a.m() + 1; } " +
	"func f(n int) int { if n < 1 { return 0; } return f(n - 1) + 1; } func g(i I) I { return D{i: i}; } func h(t T) T { print t; return t; } func deep(i I, n int) I { if n < 1 { return i; } return deep(g(i), n - 1); } "

// filled has in place of each type in < > an expression of it.
func (m *maker) filled(text string, room int) string {
	parts := strings.Split(text, "<")
	text = parts[0]
	for _, p := range parts[1:] {
		if typ, rest, ok := strings.Cut(p, ">"); ok {
			text += m.expr(typ, room-1) + rest
		} else {
			text += "<" + p
		}
	}
	return text
}

// expr is an expression of a type; the first way is the one that ends.
func (m *maker) expr(typ string, room int) string {
	ways := strings.Split(map[string]string{
		"int":  "3|n|(<int>) + (<int>)|(<int>) * (<int>) - 1|(<I>).m()|(<J>).m()|(<A>).m()|(<B>).m()|(<E>).m()|(<A>).x|(<L>).n|f(<int>)|(<T>) to T to int|-(<int>)|(<E>).j.n(<I>).m()",
		"text": `"a"|t|""|"b c"|"d\ne"|(<text>) + (<text>)|(<B>).y|t + t + t|(<T>) to T to text`,
		"bool": "true|(<int>) < (<int>)|(<int>) == n|(<text>) == t|not (<bool>)|(<bool>) and (<bool>)|(<bool>) or (<bool>)",
		"A":    "A{x: <int>}|(<B>).a|(<I>) to A",
		"B":    "B{y: <text>, a: A{x: <int>}}|B{a: <A>, y: <text>}",
		"E":    "E{c: new D{i: <I>}, j: <J>}|E{j: <J>, c: nil *D}",
		"L":    "new L{n: <int>, next: l}|l|(<L>).next|nil *L",
		"I":    "A{x: 1}|i|<J>|<B>|new A{x: <int>}|D{i: <I>}|new D{i: <I>}|g(<I>)|deep(<I>, <int>)|nil *A",
		"J":    "A{x: 2}|A{x: <int>}|(<J>).n(<I>)|(<I>) to J|<B>",
		"T":    "1|<int>|<text>|<I>|<L>|<bool>|h(<T>)|f|<E>",
	}[typ], "|")
	if room <= 0 {
		return m.filled(ways[0], room)
	}
	return m.filled(one(m, ways...), room)
}

func (m *maker) stmts(room int) string {
	text := ""
	for range 1 + m.Intn(4) {
		text += m.stmt(room) + " "
	}
	return text
}

func (m *maker) stmt(room int) string {
	if room > 0 {
		switch m.Intn(6) {
		case 0:
			return m.filled("if <bool> { ", 3) + m.stmts(room-1) + "} else { " + m.stmts(room-1) + "}"
		case 1:
			return "c = 0; while c < " + strconv.Itoa(1+m.Intn(5)) + " { c = c + 1; " + m.stmts(room-1) + "}"
		case 2:
			return m.filled(one(m, "while <bool> { n = n + 1; ", "while n < <int> { n = n + 1; "), 2) + m.stmts(room-1) + "}"
		}
	}
	return m.filled(one(m, "n = <int>;", "t = <text>;", "i = <I>;", "l = <L>;", "print <int>;", "print <text>;", "print <T>;", "print <I>;", "print <L>;", "(<I>).m();", "i = deep(i, <int>);", "print f(<int> * n);", "h(<T>);", "while true { t = t + t + \"long\"; print t; }", "print f(n * <int> * 200);", "(<J>).n(<I>).n(i);"), 3)
}

// program is one that may come to anything.
func (m *maker) program() string {
	result := one(m, "int", "text", "bool", "A", "I", "J", "T", "E")
	return shapes + "main " + result + " { let n = 0; let c = 0; let t = \"\"; let i I = A{x: 5}; let l = nil *L; " + m.stmts(2) + m.filled("return <"+result+">; }", 3)
}
