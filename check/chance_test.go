package check_test

import (
	"math/rand"
	"slices"
	"strconv"
	"strings"
	"testing"

	"coil/api"
	"coil/check"
	"coil/member"
	"coil/unfold"
)

// maker makes programs by chance, the same ones each time.
type maker struct {
	*rand.Rand
	self      string  // the type of self; none, if it is no method
	variables []typed // those that are known at the place that it has come to
	made      int     // of variables
}

type typed struct{ name, typ string }

func newMaker(seed int64) *maker { return &maker{Rand: rand.New(rand.NewSource(seed))} }

func one[T any](m *maker, l []T) T { return l[m.Intn(len(l))] }

// ways tells how an expression of a type is made: the first way ends there, in the others the types in < > are made again.
// (The parentheses make no tree of their own.)
func ways(typ string) []string {
	l := map[string]string{
		"int":          "1|(<A>).x|(<B>).x|(<*A>).x|(<C>).x|(<I>).m()|(<A>).m()|(<C>).m()|(<B>).a.x|-(<int>)|(<int>) * (<int>)|(<int>) + (<int>)|(<int>) - (<int>)|g(<int>, <I>).x|(<T>) to T to int|(<*L>).n|(<L>).next.n|(<D>).z|(<D>).x|(<D>).i.m()|(<fn() int>)()|(<L>).o()",
		"text":         `"a"|(<text>) + (<text>)|(<B>).y|(<C>).y|(<T>) to T to text`,
		"bool":         "true|false|not (<bool>)|(<bool>) and (<bool>)|(<bool>) or (<bool>)|(<int>) < (<int>)|(<text>) < (<text>)|(<int>) == (<int>)|(<text>) == (<text>)|(<bool>) == (<bool>)|((<C>).f)(<int>)|even(<int>)|(<fn(int) bool>)(<int>)",
		"A":            "A{x: 1}|A{x: <int>}|Q{x: <int>}|(<B>).a|(<I>) to I to A|g(<int>, <I>)|(<T>) to T to A|(<D>).a",
		"B":            "B{a: A{x: 1}, y: \"b\"}|B{a: <A>, y: <text>}|B{y: <text>, a: <A>}|(<J>) to J to B",
		"C":            "C{b: nil *B, i: nil *A, f: even}|C{b: <*B>, i: <I>, f: <fn(int) bool>}|C{f: <fn(int) bool>, b: <*B>, i: <J>}",
		"D":            "1 to T to D|D{a: <A>, i: <I>, c: (<T>) to T to {embed a A; z int;}}|(<T>) to T to D",
		"L":            "L{n: 1, next: nil P}|L{n: <int>, next: <*L>}",
		"*A":           "nil *A|new A{x: <int>}|new Q{x: <int>}|(<I>) to I to *A",
		"*B":           "nil *B|new B{a: <A>, y: <text>}|(<C>).b",
		"*L":           "nil P|new L{n: <int>, next: <*L>}|(<L>).next|(<*L>).next",
		"I":            "nil *A|<A>|<*A>|<J>|(<C>).i|(<T>) to T to I|(<A>) to I|<B>|<C>",
		"J":            "nil *B|<B>|<*B>|(<J>).n(<I>)|(<B>).n(<I>)|(<I>) to I to J|<C>",
		"T":            "1|<int>|<text>|<bool>|<A>|<I>|<*L>|<fn() int>|E{}|new E{}|<D>",
		"fn(int) bool": "even|(<C>).f|(<T>) to T to fn(int) bool",
		"fn() int":     "zero|(<T>) to T to fn() int",
	}
	return strings.Split(l[typ], "|")
}

// names are the types that a variable may have.
func names() []string {
	return strings.Split("int|text|bool|A|B|C|D|L|*A|*B|*L|I|J|T|fn(int) bool|fn() int", "|")
}

// expr is an expression of a type.
func (m *maker) expr(typ string, room int) string {
	var l []string
	for _, v := range m.variables {
		if v.typ == typ {
			l = append(l, v.name)
		}
	}
	if m.self == typ {
		l = append(l, "self")
	}
	if len(l) > 0 && m.Intn(3) == 0 {
		return one(m, l)
	}
	if room <= 0 {
		return ways(typ)[0]
	}
	words := strings.Split(one(m, ways(typ)), "<")
	text := words[0]
	for _, w := range words[1:] {
		part, rest, ok := strings.Cut(w, ">")
		if ok {
			text += m.expr(part, room-1-m.Intn(2)) + rest
		} else {
			text += "<" + w
		}
	}
	return text
}

// block is statements, whose variables are forgotten in the end.
func (m *maker) block(room int) string {
	before := len(m.variables)
	text := ""
	for range m.Intn(4) {
		text += m.stmt(room) + " "
	}
	m.variables = m.variables[:before]
	return text
}

func (m *maker) stmt(room int) string {
	typ := one(m, names())
	switch m.Intn(9) {
	case 0, 1, 2:
		x := m.expr(typ, 2)
		name := "v" + strconv.Itoa(m.made)
		m.made++
		m.variables = append(m.variables, typed{name, typ})
		if m.Intn(2) == 0 && !strings.Contains("I J T", typ) { // x is of the type itself
			return "let " + name + " = " + x + ";"
		}
		return "let " + name + " " + typ + " = " + x + ";"
	case 3:
		if len(m.variables) > 0 {
			v := one(m, m.variables)
			return v.name + " = " + m.expr(v.typ, 3) + ";"
		}
	case 4:
		if room > 0 {
			return "if " + m.expr("bool", 2) + " { " + m.block(room-1) + "} else { " + m.block(room-1) + "}"
		}
	case 5:
		if room > 0 {
			return "while " + m.expr("bool", 2) + " { " + m.block(room-1) + "}"
		}
	case 6:
		return "(" + m.expr(typ, 3) + ");"
	}
	return "print " + m.expr(typ, 3) + ";"
}

// code is a method, function or main one with that head; its parameters are words of a name and a type.
func (m *maker) code(word, result string, params ...string) string {
	m.self = ""
	if owner, ok := strings.CutPrefix(word, "method "); ok {
		m.self, _, _ = strings.Cut(owner, ".")
	}
	m.variables = nil
	for _, p := range params {
		name, typ, _ := strings.Cut(p, " ")
		m.variables = append(m.variables, typed{name, typ})
	}
	head := word + "(" + strings.Join(params, ", ") + ")"
	if word == "main" {
		head = word
	}
	before := len(m.variables)
	text := ""
	for range m.Intn(4) {
		text += m.stmt(2) + " "
	}
	text = head + " " + result + " { " + text + "return " + m.expr(result, 3) + "; } "
	m.variables = m.variables[:before]
	return text
}

// program has the types of set, and bodies by chance.
func (m *maker) program() string {
	return "type I = interface {m() int;}; type J = interface {m() int; n(I) J;}; type T = interface {}; type A = {x int;}; type B = {embed a A; y text;}; " +
		"type C = {embed b *B; embed i I; f fn(int) bool;}; type D = {embed a A; embed i I; embed c {embed a A; z int;};}; type L = {n int; next *L;}; type P = *L; type N = int; type Q = A; type E = {}; " +
		m.code("method A.m", "int") + m.code("method B.n", "J", "i I") + m.code("method L.o", "int") +
		m.code("func g", "A", "n int", "i I") + m.code("func even", "bool", "n int") + m.code("func zero", "int") + m.code("main", one(m, names()))
}

// spoil makes a fault by chance, or none: something of the program is replaced by something else of it.
func (m *maker) spoil(p *api.Program) {
	exprs, stmts, codes := allExprs(p), allStmts(p), codesOf(p)
	x := one(m, exprs)
	switch m.Intn(14) {
	case 0, 1, 2:
		*x = clone(*one(m, exprs))
	case 3, 4:
		y := one(m, exprs)
		if (x.S == "") == (y.S == "") && (x.Kind == api.XRec || x.Kind == api.XNew) == (y.Kind == api.XRec || y.Kind == api.XNew) && x.Kind != api.XText && y.Kind != api.XText {
			x.S = y.S
		}
	case 5:
		m.spoilParts(x)
	case 6:
		m.spoilBlock(one(m, blocksOf(&one(m, codes).Body)))
	case 7:
		if l := slices.DeleteFunc(stmts, func(s *api.Stmt) bool { return s.Name == "" }); len(l) > 0 {
			one(m, l).Name = one(m, l).Name
		}
	case 8:
		m.spoilType(x, one(m, stmts))
	case 9:
		if l := slices.DeleteFunc(exprs, func(x *api.Expr) bool { return x.Kind < api.XMul && m.Intn(50) > 0 }); len(l) > 0 {
			one(m, l).Kind = api.XMul + m.Intn(api.XOr-api.XMul+1) // sometimes a wrong tree
		}
	case 10, 11:
		if l := slices.DeleteFunc(exprs, func(x *api.Expr) bool { return x.Kind != api.XField && x.Kind != api.XCall }); len(l) > 0 {
			one(m, l).S = one(m, strings.Fields("x y z m m m n a b i f next q"))
		}
	case 12:
		if c := one(m, codes); len(c.Body) > 0 {
			c.Body = c.Body[:len(c.Body)-m.Intn(2)]
		}
	case 13:
		*x = api.Expr{Place: x.Place, Kind: api.XSelf}
	}
}

// spoilParts takes a part away, or adds one.
func (m *maker) spoilParts(x *api.Expr) {
	first := 0
	switch x.Kind {
	case api.XCall, api.XApply:
		first = 1
	case api.XRec, api.XNew:
	default:
		return
	}
	n := len(x.Parts)
	switch {
	case m.Intn(2) == 0 && n > first:
		i := first + m.Intn(n-first)
		x.Parts = slices.Delete(slices.Clone(x.Parts), i, i+1)
		if first == 0 {
			x.Names = slices.Delete(slices.Clone(x.Names), i, i+1)
		}
	case n > 0:
		x.Parts = append(x.Parts, clone(x.Parts[m.Intn(n)]))
		if first == 0 {
			x.Names = append(x.Names, one(m, strings.Fields("x y z a b q")))
		}
	}
}

// spoilBlock takes a statement away, has it again, or exchanges two.
func (m *maker) spoilBlock(l *[]api.Stmt) {
	n := len(*l)
	if n == 0 {
		return
	}
	i, j := m.Intn(n), m.Intn(n)
	switch m.Intn(3) {
	case 0:
		*l = slices.Delete(slices.Clone(*l), i, i+1)
	case 1:
		*l = slices.Insert(slices.Clone(*l), i, clone((*l)[j]))
	case 2:
		(*l)[i], (*l)[j] = (*l)[j], (*l)[i]
	}
}

// spoilType replaces the type that an expression or a statement names.
func (m *maker) spoilType(x *api.Expr, s *api.Stmt) {
	t := api.Type{Kind: 1 + m.Intn(3)}
	if m.Intn(3) > 0 {
		t = api.Type{Kind: api.TName, Name: one(m, strings.Fields("A B C D E I J L N P Q T T Z"))}
	}
	if m.Intn(3) == 0 {
		t = api.Type{Kind: api.TPtr, Parts: []api.Type{t}}
	}
	switch {
	case len(x.T) > 0:
		x.T = []api.Type{t}
	case s.Kind == api.SLet:
		s.T = []api.Type{t}
		if m.Intn(3) == 0 {
			s.T = nil
		}
	}
}

// TestReference: P9.1 to P9.4, programs made by chance, with faults and without, against the chapter's words.
func TestReference(t *testing.T) {
	m := newMaker(9)
	count := map[api.Errno]int{}
	for i := range 2400 {
		src := m.program()
		p := parsed(t, src)
		for range i % 4 {
			m.spoil(&p)
		}
		c, r := compare(t, p)
		why := api.OK
		if r != nil {
			why = r.Why
			if i%4 == 0 {
				t.Fatalf("%s\n%v", src, r)
			}
		}
		count[why]++
		replaced(t, m, p, c, r)
		turned(t, p, c)
	}
	for _, why := range []api.Errno{api.ErrArg, api.ErrTwice, api.ErrNoName, api.ErrNoMember, api.ErrAmbiguous, api.ErrType, api.ErrCount, api.ErrField, api.ErrCast, api.ErrReturn, api.ErrSelf} {
		if count[why] < 5 {
			t.Error("hardly met:", why, count)
		}
	}
	if count[api.OK] < 800 {
		t.Error("hardly accepted:", count)
	}
}

// renamed is the name by which a variable is replaced; functions' names stay.
func renamed(p api.Program, name string) string {
	if name == "" || slices.ContainsFunc(p.Funcs, func(f api.Code) bool { return f.Name == name }) {
		return name
	}
	return "w" + name
}

// replaced fails, unless P9.3 holds: with other places, and other names of variables, all is as before.
func replaced(t *testing.T, m *maker, p api.Program, c *check.Checked, r *check.Refusal) {
	t.Helper()
	other := clone(p)
	places := map[int]int{}
	replace := func(at *int) {
		if _, ok := places[*at]; !ok {
			places[*at] = m.Intn(1<<40) - 1<<39
		}
		*at = places[*at]
	}
	for i := range other.Defs {
		replace(&other.Defs[i].At)
	}
	for _, code := range codesOf(&other) {
		replace(&code.At)
		for i := range code.Params {
			code.Params[i].Name = renamed(p, code.Params[i].Name)
		}
	}
	for _, s := range allStmts(&other) {
		replace(&s.At)
		s.Name = renamed(p, s.Name)
	}
	for _, x := range allExprs(&other) {
		replace(&x.At)
		if x.Kind == api.XVar {
			x.S = renamed(p, x.S)
		}
	}
	got, err := check.Program(other)
	if r != nil {
		want := *r
		if r.Why != api.ErrArg { // which is told at 0
			want.At = places[r.At]
		}
		x := refusal(t, other)
		if x == nil || *x != want && (x.Place != want.Place || x.Why != want.Why || x.Name != renamed(p, want.Name)) {
			t.Fatalf("%s\n%v, not %v", shown(other), err, want)
		}
		return
	}
	if err != nil || !slices.EqualFunc(got.Types(), c.Types(), func(x, y check.Typed) bool {
		return x.Where() == places[y.Where()] && x.Kind == y.Kind && x.Class == y.Class
	}) || !slices.EqualFunc(said(got)[1:5], said(c)[1:5], func(x, y any) bool { return x == y }) || got.Classes().Text() != c.Classes().Text() {
		t.Fatalf("%s\n%v", shown(other), err)
	}
}

// trees tells of each expression its place, its kind and its type, whatever numbers the classes have, by their places.
func trees(c *check.Checked) []string {
	g := c.Classes().Graph()
	var l []string
	for _, x := range c.Types() {
		node, _ := c.Classes().Node(x.Class)
		l = append(l, strconv.Itoa(x.Where())+" "+strconv.Itoa(x.Kind)+" "+unfold.Text(g, node, 4))
	}
	slices.Sort(l)
	return l
}

// turned fails, unless the program is accepted, and told alike, with its definitions, methods and functions in another order.
func turned(t *testing.T, p api.Program, c *check.Checked) {
	t.Helper()
	other := clone(p)
	slices.Reverse(other.Defs)
	slices.Reverse(other.Methods)
	slices.Reverse(other.Funcs)
	got, err := check.Program(other)
	if c == nil || err != nil {
		if (c == nil) != (err != nil) {
			t.Fatalf("%s\n%v", shown(other), err)
		}
		return
	}
	up, down := c.Casts()
	if u, d := got.Casts(); u != up || d != down || got.Size() != c.Size() || !slices.Equal(trees(got), trees(c)) {
		t.Fatalf("%s\n%v\nnot\n%v", shown(other), said(got), said(c))
	}
	for _, d := range p.Defs { // C3
		a, _ := c.Classes().Root(d.Name)
		if b, ok := got.Classes().Root(d.Name); a != b || !ok {
			t.Fatalf("%s\n%s: %d, not %d", shown(other), d.Name, b, a)
		}
	}
}

// TestFollows: P9.3 and P9.4, of programs that have each kind of expression and statement.
func TestFollows(t *testing.T) {
	m := newMaker(10)
	for _, src := range []string{unmarked(whole, 0), run4(""), function("print c.m(); print pc.n(b).n(i).m(); print d.z + d.x; print pl.next.n; print (c.f)(c.b.x);")} {
		p := parsed(t, src)
		c, r := compare(t, p)
		if r != nil {
			t.Fatal(src, r)
		}
		replaced(t, m, p, c, r)
		turned(t, p, c)
		exprs := allExprs(&p)
		for i, x := range c.Types() {
			if x.Kind != api.XField && x.Kind != api.XCall {
				continue
			}
			if _, why := member.Lookup(c.Classes(), c.Types()[i+1].Class, exprs[i].S); why != api.OK {
				t.Error(src, x, why)
			}
		}
	}
	// A variable that hid a function hides none by another name: both may stand there.
	accepts(t, "func f(n int) int { return n; } main int { let f = 1; return f; }", "func f(n int) int { return n; } main int { let g = 1; return g; }", "func f(n int) int { return n; } main int { let g = 1; return f(g); }")
}
