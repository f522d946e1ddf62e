package interp_test

import (
	"math/rand"
	"slices"
	"testing"

	"coil/api"
	"coil/check"
	"coil/interp"
	"coil/member"
	"coil/subtype"
	"coil/syntax"
	"coil/value"
)

// reference runs a program by the chapter's words, one after the other, from the trees that were checked.
type reference struct {
	*check.Checked
	program api.Program
	classes map[*api.Expr]int // of each expression
	ids     map[string]int    // of types that were asked
	order   *subtype.Relation
	fuel    int
	steps   int
	open    int
	out     []string
}

// ended is what a run panics with when it ends with an error.
type ended struct{ why api.Errno }

// scope is the variables of a block.
type scope struct {
	values map[string]api.Value
	outer  *scope
	self   api.Value
}

func (s *scope) find(name string) *scope {
	for ; s != nil; s = s.outer {
		if _, ok := s.values[name]; ok {
			return s
		}
	}
	return nil
}

func (s *scope) inner() *scope { return &scope{map[string]api.Value{}, s, s.self} }

func newReference(c *check.Checked, p api.Program) *reference {
	r := &reference{Checked: c, program: p, classes: map[*api.Expr]int{}, ids: map[string]int{}, order: subtype.New(c.Classes())}
	types := c.Types()
	var exprs func(l []api.Expr)
	exprs = func(l []api.Expr) {
		for i := range l {
			r.classes[&l[i]] = types[0].Class
			types = types[1:]
			exprs(l[i].Parts)
		}
	}
	var stmts func(l []api.Stmt)
	stmts = func(l []api.Stmt) {
		for i := range l {
			exprs(l[i].X)
			stmts(l[i].Body)
			stmts(l[i].Else)
		}
	}
	for _, l := range [][]api.Code{p.Methods, p.Funcs, {p.Main}} {
		for _, code := range l {
			stmts(code.Body)
		}
	}
	return r
}

// run answers the outcome of what do does.
func (r *reference) run(fuel int, do func() api.Value) (o api.Outcome) {
	if fuel < 0 || fuel > 100000 {
		return api.Outcome{Why: api.ErrRange}
	}
	r.fuel, r.steps, r.open, r.out = fuel, 0, 0, nil
	defer func() {
		if e, ok := recover().(ended); ok {
			o.Why = e.why
		}
		o.Out, o.Steps = r.out, r.steps
	}()
	v := do()
	text, why := value.Text(r.Classes(), v)
	return api.Outcome{Why: why, Value: text}
}

func (r *reference) main(fuel int) api.Outcome {
	return r.run(fuel, func() api.Value {
		v, _ := r.block(r.program.Main.Body, &scope{values: map[string]api.Value{}})
		return v
	})
}

func (r *reference) callFunc(fuel int, name string, args []api.Value) api.Outcome {
	i := slices.IndexFunc(r.program.Funcs, func(c api.Code) bool { return c.Name == name })
	if i < 0 || len(args) != len(r.program.Funcs[i].Params) {
		return api.Outcome{Why: api.ErrArg}
	}
	for n, v := range args {
		if !value.Right(r.Classes(), v) || !r.below(v.Class, r.id(r.program.Funcs[i].Params[n].T)) || !r.sound(v) {
			return api.Outcome{Why: api.ErrArg}
		}
	}
	return r.run(fuel, func() api.Value { return r.call(r.program.Funcs[i], api.Value{}, args) })
}

func (r *reference) id(t api.Type) int {
	text, _ := syntax.Type(t)
	id, ok := r.ids[text]
	if !ok {
		ids, err := r.Classes().Ids(t)
		if err != nil {
			panic(err)
		}
		id = ids[0]
		r.ids[text] = id
	}
	return id
}

func (r *reference) sound(v api.Value) bool {
	if v.Kind == api.VFn {
		i := slices.IndexFunc(r.program.Funcs, func(c api.Code) bool { return c.Name == v.S })
		return i >= 0 && r.below(r.id(typeOf(r.program.Funcs[i])), v.Class)
	}
	for i, p := range v.Parts {
		if !r.below(p.Class, r.Classes().Children(v.Class)[i]) || !r.sound(p) {
			return false
		}
	}
	return true
}

// typeOf is a function's type.
func typeOf(c api.Code) api.Type {
	t := api.Type{Kind: api.TFn}
	for _, p := range c.Params {
		t.Parts = append(t.Parts, p.T)
	}
	t.Parts = append(t.Parts, c.Result)
	return t
}

func (r *reference) below(a, b int) bool {
	ok, _ := r.order.Below(a, b)
	return ok
}

func (r *reference) step() {
	if r.steps == r.fuel {
		panic(ended{api.ErrFuel})
	}
	r.steps++
}

func (r *reference) call(c api.Code, self api.Value, args []api.Value) api.Value {
	r.step()
	if r.open == 500 {
		panic(ended{api.ErrCalls})
	}
	r.open++
	s := &scope{values: map[string]api.Value{}, self: self}
	for i, p := range c.Params {
		s.values[p.Name] = args[i]
	}
	v, returned := r.block(c.Body, s)
	if !returned {
		panic("no return")
	}
	r.open--
	return v
}

func (r *reference) block(l []api.Stmt, s *scope) (api.Value, bool) {
	for i := range l {
		if v, returned := r.stmt(&l[i], s); returned {
			return v, true
		}
	}
	return api.Value{}, false
}

func (r *reference) stmt(st *api.Stmt, s *scope) (api.Value, bool) {
	r.step()
	x := &st.X[0]
	switch st.Kind {
	case api.SLet:
		s.values[st.Name] = r.expr(x, s)
	case api.SSet:
		v := r.expr(x, s)
		s.find(st.Name).values[st.Name] = v
	case api.SPrint:
		text, why := value.Text(r.Classes(), r.expr(x, s))
		size := len(text) + 1
		for _, line := range r.out {
			size += len(line) + 1
		}
		if why != api.OK || size > 65536 {
			panic(ended{api.ErrBig})
		}
		r.out = append(r.out, text)
	case api.SIf:
		if r.expr(x, s).N == 1 {
			return r.block(st.Body, s.inner())
		}
		return r.block(st.Else, s.inner())
	case api.SWhile:
		for r.expr(x, s).N == 1 {
			if v, returned := r.block(st.Body, s.inner()); returned {
				return v, true
			}
			r.step()
		}
	case api.SReturn:
		return r.expr(x, s), true
	default:
		r.expr(x, s)
	}
	return api.Value{}, false
}

func (r *reference) expr(x *api.Expr, s *scope) api.Value {
	class := r.classes[x]
	switch x.Kind {
	case api.XInt:
		return api.Value{Kind: api.VInt, Class: class, N: x.N}
	case api.XBool:
		return api.Value{Kind: api.VBool, Class: class, N: x.N}
	case api.XText:
		return api.Value{Kind: api.VText, Class: class, S: x.S}
	case api.XVar:
		if v := s.find(x.S); v != nil {
			return v.values[x.S]
		}
		return api.Value{Kind: api.VFn, Class: class, S: x.S}
	case api.XSelf:
		return s.self
	case api.XNil:
		return api.Value{Kind: api.VPtr, Class: class}
	case api.XRec, api.XNew:
		return r.record(x, s)
	}
	first := r.expr(&x.Parts[0], s)
	if x.Kind == api.XAnd && first.N == 0 || x.Kind == api.XOr && first.N == 1 {
		return first
	}
	var rest []api.Value
	for i := range x.Parts[1:] {
		rest = append(rest, r.expr(&x.Parts[1+i], s))
	}
	static := r.classes[&x.Parts[0]]
	switch x.Kind {
	case api.XField:
		m, _ := member.Lookup(r.Classes(), static, x.S)
		return r.walk(first, append(slices.Clone(m.Path), x.S))
	case api.XCall:
		return r.method(x.S, static, first, rest)
	case api.XApply:
		i := slices.IndexFunc(r.program.Funcs, func(c api.Code) bool { return c.Name == first.S })
		return r.call(r.program.Funcs[i], api.Value{}, rest)
	case api.XTo:
		if !r.below(static, class) && !r.below(first.Class, class) {
			panic(ended{api.ErrDown})
		}
		return first
	}
	return r.operation(x.Kind, class, append(rest, first)[len(rest)], rest)
}

func (r *reference) record(x *api.Expr, s *scope) api.Value {
	class := r.id(api.Type{Kind: api.TName, Name: x.S})
	parts := map[string]api.Value{}
	for i, name := range x.Names {
		parts[name] = r.expr(&x.Parts[i], s)
	}
	names := slices.Clone(x.Names)
	slices.Sort(names)
	v := api.Value{Kind: api.VRec, Class: class}
	for _, name := range names {
		v.Parts = append(v.Parts, parts[name])
	}
	if x.Kind == api.XNew {
		return api.Value{Kind: api.VPtr, Class: r.classes[x], Parts: []api.Value{v}}
	}
	return v
}

func (r *reference) walk(v api.Value, path []string) api.Value {
	v, why := value.Walk(r.Classes(), v, path...)
	if why != api.OK {
		panic(ended{why})
	}
	return v
}

func (r *reference) method(name string, class int, v api.Value, args []api.Value) api.Value {
	m, why := member.Lookup(r.Classes(), class, name)
	if why != api.OK {
		panic(ended{why})
	}
	v = r.walk(v, m.Path)
	if m.Kind == api.MIface {
		return r.method(name, v.Class, v, args)
	}
	if v.Kind == api.VPtr {
		if len(v.Parts) == 0 {
			panic(ended{api.ErrNil})
		}
		v = v.Parts[0]
	}
	i := slices.IndexFunc(r.program.Methods, func(c api.Code) bool { return c.Owner == m.Owner && c.Name == name })
	return r.call(r.program.Methods[i], v, args)
}

func (r *reference) operation(kind, class int, a api.Value, rest []api.Value) api.Value {
	b := append(slices.Clone(rest), api.Value{})[0]
	said := func(ok bool) api.Value {
		v := api.Value{Kind: api.VBool, Class: class}
		if ok {
			v.N = 1
		}
		return v
	}
	switch kind {
	case api.XAnd, api.XOr:
		return b
	case api.XNot:
		return said(a.N == 0)
	case api.XEq:
		return said(value.Same(a, b))
	case api.XLess:
		if a.Kind == api.VText {
			return said(a.S < b.S)
		}
		return said(a.N < b.N)
	case api.XAdd:
		if a.Kind == api.VText {
			if len(a.S)+len(b.S) > 4096 {
				panic(ended{api.ErrBig})
			}
			return api.Value{Kind: api.VText, Class: class, S: a.S + b.S}
		}
		return api.Value{Kind: api.VInt, Class: class, N: a.N + b.N}
	case api.XSub:
		return api.Value{Kind: api.VInt, Class: class, N: a.N - b.N}
	case api.XMul:
		return api.Value{Kind: api.VInt, Class: class, N: a.N * b.N}
	}
	return api.Value{Kind: api.VInt, Class: class, N: -a.N}
}

func same(a, b api.Outcome) bool {
	return slices.Equal(a.Out, b.Out) && a.Why == b.Why && a.Value == b.Value && a.Steps == b.Steps
}

// TestReference: P11.1 to P11.4, programs made by chance, and calls of their functions, against the chapter's words.
func TestReference(t *testing.T) {
	m := &maker{Rand: rand.New(rand.NewSource(11))}
	count, called := map[api.Errno]int{}, map[api.Errno]int{}
	for range 500 {
		src := m.program()
		p := parsed(t, src)
		c := accepted(t, p)
		ref := newReference(c, p)
		fuel := m.Intn(3000)
		o := interp.Run(c, fuel)
		if want := ref.main(fuel); !same(o, want) {
			t.Fatalf("%s\nfuel %d: %+v, not %+v", src, fuel, o, want)
		}
		count[o.Why]++
		less := m.Intn(fuel + 1)
		if want := ref.main(less); !same(interp.Run(c, less), want) {
			t.Fatalf("%s\nfuel %d: not %+v", src, less, want)
		}
		if m.Intn(3) == 0 {
			grows(t, src, o, func(fuel int) api.Outcome { return interp.Run(c, fuel) })
		}
		for range 4 {
			f := one(m, p.Funcs)
			args := m.args(c, ref, f)
			o := interp.Call(c, fuel, f.Name, args...)
			if want := ref.callFunc(fuel, f.Name, args); !same(o, want) {
				t.Fatalf("%s\n%s of %+v, fuel %d: %+v, not %+v", src, f.Name, args, fuel, o, want)
			}
			called[o.Why]++
		}
	}
	for _, why := range []api.Errno{api.OK, api.ErrFuel, api.ErrNil, api.ErrDown, api.ErrBig, api.ErrCalls} {
		if count[why] < 8 || called[why] < 20 {
			t.Error("hardly met:", why, count, called)
		}
	}
	if called[api.ErrArg] < 300 {
		t.Error("hardly met:", called)
	}
}
