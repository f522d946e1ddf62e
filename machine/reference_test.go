package machine_test

import (
	"slices"
	"testing"

	"coil/api"
	"coil/check"
	"coil/interp"
	"coil/lower"
	"coil/machine"
	"coil/member"
	"coil/subtype"
	"coil/syntax"
	"coil/value"
)

// reference runs a program's trees by chapter 11's words, and notes down which tables chapter 14 has it ask.
type reference struct {
	*check.Checked
	program api.Program
	known   map[*api.Expr]int // the class of each expression
	ids     map[string]int    // of types that were asked
	order   *subtype.Relation
	fuel    int
	steps   int
	open    int
	size    int      // of the output
	asked   [][2]int // class and interface
}

// ended is what a run panics with when it ends with an error.
type ended struct{ why api.Errno }

// scope is the variables of a block.
type scope struct {
	values map[string]api.Value
	outer  *scope
	self   api.Value
}

func (s *scope) find(name string) *scope {
	for ; s != nil; s = s.outer {
		if _, ok := s.values[name]; ok {
			return s
		}
	}
	return nil
}

func (s *scope) inner() *scope { return &scope{map[string]api.Value{}, s, s.self} }

func newReference(c *check.Checked, p api.Program) *reference {
	r := &reference{Checked: c, program: p, known: map[*api.Expr]int{}, ids: map[string]int{}, order: subtype.New(c.Classes())}
	types := c.Types()
	var exprs func(l []api.Expr)
	exprs = func(l []api.Expr) {
		for i := range l {
			r.known[&l[i]] = types[0].Class
			types = types[1:]
			exprs(l[i].Parts)
		}
	}
	var stmts func(l []api.Stmt)
	stmts = func(l []api.Stmt) {
		for i := range l {
			exprs(l[i].X)
			stmts(l[i].Body)
			stmts(l[i].Else)
		}
	}
	for _, code := range slices.Concat(p.Methods, p.Funcs, []api.Code{p.Main}) {
		stmts(code.Body)
	}
	return r
}

// tables are the pairs whose tables a run asks, one after the other.
func (r *reference) tables(fuel int) (asked [][2]int) {
	r.fuel, r.steps, r.open, r.size, r.asked = fuel, 0, 0, 0, nil
	defer func() {
		if e := recover(); e != nil {
			_ = e.(ended)
		}
		asked = r.asked
	}()
	r.block(r.program.Main.Body, &scope{values: map[string]api.Value{}})
	return
}

func (r *reference) id(t api.Type) int {
	text, _ := syntax.Type(t)
	id, ok := r.ids[text]
	if !ok {
		ids, err := r.Classes().Ids(t)
		if err != nil {
			panic(err)
		}
		id = ids[0]
		r.ids[text] = id
	}
	return id
}

func (r *reference) step() {
	if r.steps == r.fuel {
		panic(ended{api.ErrFuel})
	}
	r.steps++
}

func (r *reference) call(c api.Code, self api.Value, args []api.Value) api.Value {
	r.step()
	if r.open == 500 {
		panic(ended{api.ErrCalls})
	}
	r.open++
	s := &scope{values: map[string]api.Value{}, self: self}
	for i, p := range c.Params {
		s.values[p.Name] = args[i]
	}
	v, _ := r.block(c.Body, s)
	r.open--
	return v
}

func (r *reference) block(l []api.Stmt, s *scope) (api.Value, bool) {
	for i := range l {
		if v, returned := r.stmt(&l[i], s); returned {
			return v, true
		}
	}
	return api.Value{}, false
}

func (r *reference) stmt(st *api.Stmt, s *scope) (api.Value, bool) {
	r.step()
	x := &st.X[0]
	switch st.Kind {
	case api.SLet:
		s.values[st.Name] = r.expr(x, s)
	case api.SSet:
		v := r.expr(x, s)
		s.find(st.Name).values[st.Name] = v
	case api.SPrint:
		text, why := value.Text(r.Classes(), r.expr(x, s))
		r.size += len(text) + 1
		if why != api.OK || r.size > 65536 {
			panic(ended{api.ErrBig})
		}
	case api.SIf:
		if r.expr(x, s).N == 1 {
			return r.block(st.Body, s.inner())
		}
		return r.block(st.Else, s.inner())
	case api.SWhile:
		for r.expr(x, s).N == 1 {
			if v, returned := r.block(st.Body, s.inner()); returned {
				return v, true
			}
			r.step()
		}
	case api.SReturn:
		return r.expr(x, s), true
	default:
		r.expr(x, s)
	}
	return api.Value{}, false
}

func (r *reference) expr(x *api.Expr, s *scope) api.Value {
	class := r.known[x]
	switch x.Kind {
	case api.XInt:
		return api.Value{Kind: api.VInt, Class: class, N: x.N}
	case api.XBool:
		return api.Value{Kind: api.VBool, Class: class, N: x.N}
	case api.XText:
		return api.Value{Kind: api.VText, Class: class, S: x.S}
	case api.XVar:
		if v := s.find(x.S); v != nil {
			return v.values[x.S]
		}
		return api.Value{Kind: api.VFn, Class: class, S: x.S}
	case api.XSelf:
		return s.self
	case api.XNil:
		return api.Value{Kind: api.VPtr, Class: class}
	case api.XRec, api.XNew:
		return r.record(x, s)
	}
	first := r.expr(&x.Parts[0], s)
	if x.Kind == api.XAnd && first.N == 0 || x.Kind == api.XOr && first.N == 1 {
		return first
	}
	var rest []api.Value
	for i := range x.Parts[1:] {
		rest = append(rest, r.expr(&x.Parts[1+i], s))
	}
	static := r.known[&x.Parts[0]]
	switch x.Kind {
	case api.XField:
		m, _ := member.Lookup(r.Classes(), static, x.S)
		return r.walk(first, append(slices.Clone(m.Path), x.S))
	case api.XCall:
		return r.method(x.S, static, first, rest)
	case api.XApply:
		i := slices.IndexFunc(r.program.Funcs, func(c api.Code) bool { return c.Name == first.S })
		return r.call(r.program.Funcs[i], api.Value{}, rest)
	case api.XTo:
		if ok, _ := r.order.Below(first.Class, class); !ok {
			panic(ended{api.ErrDown})
		}
		return first
	case api.XNeg, api.XNot:
		return value.Unary(x.Kind, class, first)
	}
	v, why := value.Binary(x.Kind, class, first, rest[0])
	if why != api.OK {
		panic(ended{why})
	}
	return v
}

func (r *reference) record(x *api.Expr, s *scope) api.Value {
	parts := map[string]api.Value{}
	for i, name := range x.Names {
		parts[name] = r.expr(&x.Parts[i], s)
	}
	v := api.Value{Kind: api.VRec, Class: r.id(api.Type{Kind: api.TName, Name: x.S})}
	for _, name := range slices.Sorted(slices.Values(x.Names)) {
		v.Parts = append(v.Parts, parts[name])
	}
	if x.Kind == api.XNew {
		return api.Value{Kind: api.VPtr, Class: r.known[x], Parts: []api.Value{v}}
	}
	return v
}

func (r *reference) walk(v api.Value, path []string) api.Value {
	v, why := value.Walk(r.Classes(), v, path...)
	if why != api.OK {
		panic(ended{why})
	}
	return v
}

// method finds it by the class that is known of v; where that has it of an interface, the value there has a table.
func (r *reference) method(name string, class int, v api.Value, args []api.Value) api.Value {
	m, why := member.Lookup(r.Classes(), class, name)
	if why != api.OK {
		panic(why)
	}
	v = r.walk(v, m.Path)
	if m.Kind == api.MIface {
		r.asked = append(r.asked, [2]int{v.Class, r.iface(class, m.Path)})
		return r.method(name, v.Class, v, args)
	}
	if v.Kind == api.VPtr {
		if len(v.Parts) == 0 {
			panic(ended{api.ErrNil})
		}
		v = v.Parts[0]
	}
	i := slices.IndexFunc(r.program.Methods, func(c api.Code) bool { return c.Owner == m.Owner && c.Name == name })
	return r.call(r.program.Methods[i], v, args)
}

// iface is the class of the interface to which fields lead from a class, from node to node.
func (r *reference) iface(class int, path []string) int {
	g := r.Classes().Graph()
	node, _ := r.Classes().Node(class)
	for _, field := range path {
		if g.Kind(node) == api.TPtr {
			node = g.Parts(node)[0]
		}
		node = g.Parts(node)[slices.Index(g.Names(node), field)]
	}
	iface, _ := r.Classes().Of(node)
	return iface
}

// counts are those of tables that are asked one after the other, where so many are kept.
func (r *reference) counts(tabs int, asked [][2]int) machine.Counts {
	n := machine.Counts{Calls: len(asked)}
	var kept, met [][2]int // kept: the one that was asked for last is the last one
	for _, pair := range asked {
		if !slices.Contains(met, pair) {
			met = append(met, pair)
		}
		if i := slices.Index(kept, pair); i >= 0 {
			kept = slices.Delete(kept, i, i+1)
		} else {
			n.Builds++
			n.Lookups += len(r.Classes().Children(pair[1]))
		}
		kept = append(kept, pair)
		kept = kept[max(0, len(kept)-tabs):]
	}
	n.Pairs = len(met)
	return n
}

// fuelsOf are fuels up to a run's end and behind it: all of them, if they are few, and else some of them.
func (m *maker) fuelsOf(steps int) []int {
	fuels := []int{steps, steps + 1, 3000, max(steps-1, 0)}
	for fuel := range steps {
		if steps < 40 || m.Intn(steps) < 9 {
			fuels = append(fuels, fuel)
		}
	}
	m.Shuffle(len(fuels), func(i, j int) { fuels[i], fuels[j] = fuels[j], fuels[i] })
	return fuels
}

// compare fails, unless what a program's runs come to is what the interpreter comes to, and their Counts are those of the
// tables that the chapter has them ask.
func compare(t *testing.T, src string, ref *reference, c *lower.Code, tabs int, fuels ...int) machine.Counts {
	t.Helper()
	l, n := machine.Runs(c, tabs, fuels...)
	var asked [][2]int
	for i, fuel := range fuels {
		if want := interp.Run(c.Checked(), fuel); !same(l[i], want) {
			t.Fatalf("%s\nfuel %d, tabs %d: %+v, not %+v", src, fuel, tabs, l[i], want)
		}
		asked = append(asked, ref.tables(fuel)...)
	}
	if want := ref.counts(tabs, asked); n != want {
		t.Fatalf("%s\nfuels %v, tabs %d: %+v, not %+v", src, fuels, tabs, n, want)
	}
	follows(t, src, tabs, n)
	return n
}

// TestReference: P14.1 to P14.3, programs made by chance: what they come to against the interpreter, their Counts against the
// chapter's words.
func TestReference(t *testing.T) {
	m := newMaker(14)
	count := map[api.Errno]int{}
	few, many := 0, 0
	for i := range 300 {
		src := m.round()
		if i%2 == 0 {
			src = m.program()
		}
		p := parsed(t, src)
		checked := accepted(t, p)
		c, ref := lowered(t, checked), newReference(checked, p)
		o := interp.Run(checked, 3000)
		count[o.Why]++
		for range 3 {
			tabs := 1 + m.Intn(api.MaxTabs)
			if n := compare(t, src, ref, c, tabs, 3000); n.Pairs <= tabs && n.Pairs > 2 {
				few++
			} else if n.Pairs > tabs {
				many++
			}
		}
		compare(t, src, ref, c, 1+m.Intn(api.MaxTabs), m.fuelsOf(o.Steps)...)
	}
	for _, why := range []api.Errno{api.OK, api.ErrFuel, api.ErrNil, api.ErrDown, api.ErrBig, api.ErrCalls} {
		if count[why] < 5 {
			t.Error("hardly met:", why, count)
		}
	}
	if few < 50 || many < 50 {
		t.Error("hardly met:", few, many)
	}
}
