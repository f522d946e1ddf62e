package check_test

import (
	"reflect"
	"slices"
	"testing"

	"coil/api"
	"coil/canon"
	"coil/check"
	"coil/graph"
	"coil/member"
	"coil/subtype"
	"coil/syntax"
)

// reference is the chapter's words taken one by one. It finds a type's class by the type itself, not by the order in which
// types were taken, and a variable by going back through those that are known.
type reference struct {
	*canon.Classes
	graph     *graph.Graph
	relation  *subtype.Relation
	program   *api.Program
	ids       map[string]int
	known     map[*api.Expr]int
	variables []known
	code      *api.Code
}

type known struct {
	name  string
	class int
}

// refuse ends the reference's work.
func refuse(at int, why api.Errno, name string) {
	panic(&check.Refusal{Place: api.Place{At: at}, Why: why, Name: name})
}

// expected is what the chapter says of a program.
func expected(p *api.Program) (r *reference, refused *check.Refusal) {
	defer func() {
		if x := recover(); x != nil {
			r, refused = nil, x.(*check.Refusal) // another panic goes on
		}
	}()
	r = &reference{program: p, ids: map[string]int{}, known: map[*api.Expr]int{}}
	if _, e := syntax.Program(*p); e == api.ErrArg {
		refuse(0, api.ErrArg, "")
	}
	g, err := graph.New(p.Defs, p.Methods...)
	if err != nil {
		x := err.(*graph.Refusal)
		refuse(x.At, x.Why, x.Name)
	}
	for i, f := range p.Funcs {
		if slices.ContainsFunc(p.Funcs[:i], func(g api.Code) bool { return g.Name == f.Name }) {
			refuse(f.At, api.ErrTwice, f.Name)
		}
	}
	r.graph = g
	r.takeAll()
	r.Classes = canon.New(g)
	r.relation = subtype.New(r.Classes)
	for _, c := range codesOf(p) {
		r.body(c)
	}
	return r, nil
}

func (r *reference) take(at int, t api.Type) {
	if _, err := r.graph.Add(t); err != nil {
		x := err.(*graph.Refusal)
		refuse(at, x.Why, x.Name)
	}
}

func head(c *api.Code) api.Type {
	t := api.Type{Kind: api.TFn}
	for _, p := range c.Params {
		t.Parts = append(t.Parts, p.T)
	}
	return api.Type{Kind: api.TFn, Parts: append(t.Parts, c.Result)}
}

func pointer(name string) api.Type {
	return api.Type{Kind: api.TPtr, Parts: []api.Type{{Kind: api.TName, Name: name}}}
}

// takeAll takes the types of 4., and int, bool, text. (A statement's T stands ahead of its expressions' types, and those
// ahead of what its blocks have.)
func (r *reference) takeAll() {
	for i := range r.program.Funcs {
		r.take(r.program.Funcs[i].At, head(&r.program.Funcs[i]))
	}
	r.take(r.program.Main.At, r.program.Main.Result)
	for _, s := range allStmts(r.program) {
		if len(s.T) > 0 {
			r.take(s.At, s.T[0])
		}
		for _, x := range exprsOf(s.X) {
			switch x.Kind {
			case api.XNil, api.XTo:
				r.take(x.At, x.T[0])
			case api.XNew:
				r.take(x.At, pointer(x.S))
			}
		}
	}
	for _, kind := range []int{api.TInt, api.TBool, api.TText} {
		r.take(0, api.Type{Kind: kind})
	}
}

// of is the class of a type, which has been taken.
func (r *reference) of(t api.Type) int {
	text, _ := syntax.Type(t)
	class, ok := r.ids[text]
	if !ok {
		ids, err := r.Ids(t)
		if err != nil || ids[0] >= r.Len() {
			panic("a type that wasn't taken")
		}
		class = ids[0]
		r.ids[text] = class
	}
	return class
}

func (r *reference) basic(kind int) int { return r.of(api.Type{Kind: kind}) }

func (r *reference) named(name string) int { return r.of(api.Type{Kind: api.TName, Name: name}) }

func (r *reference) kind(class int) int {
	node, _ := r.Node(class)
	return r.graph.Kind(node)
}

func (r *reference) below(a, b int) bool {
	ok, _ := r.relation.Below(a, b)
	return ok
}

func (r *reference) body(c *api.Code) {
	r.code, r.variables = c, nil
	for _, p := range c.Params {
		r.variables = append(r.variables, known{p.Name, r.of(p.T)})
	}
	r.block(c.Body)
	if n := len(c.Body); n == 0 || c.Body[n-1].Kind != api.SReturn {
		refuse(c.At, api.ErrReturn, c.Name)
	}
}

func (r *reference) block(l []api.Stmt) {
	before := r.variables
	for i := range l {
		r.stmt(&l[i])
	}
	r.variables = before
}

// variable is the class of a variable; -1, if there is none.
func (r *reference) variable(name string) int {
	for _, v := range r.variables {
		if v.name == name {
			return v.class
		}
	}
	return -1
}

func (r *reference) stmt(s *api.Stmt) {
	x := &s.X[0]
	if s.Kind == api.SSet && r.variable(s.Name) < 0 {
		refuse(s.At, api.ErrNoName, s.Name)
	}
	class := r.typed(x)
	asks := func(ok bool) {
		if !ok {
			refuse(x.At, api.ErrType, "")
		}
	}
	switch s.Kind {
	case api.SLet:
		if r.variable(s.Name) >= 0 {
			refuse(s.At, api.ErrTwice, s.Name)
		}
		if len(s.T) > 0 {
			asks(r.below(class, r.of(s.T[0])))
			class = r.of(s.T[0])
		}
		r.variables = append(slices.Clip(r.variables), known{s.Name, class})
	case api.SSet:
		asks(r.below(class, r.variable(s.Name)))
	case api.SIf, api.SWhile:
		asks(class == r.basic(api.TBool))
		r.block(s.Body)
		r.block(s.Else)
	case api.SReturn:
		asks(r.below(class, r.of(r.code.Result)))
	}
}

// typed is the class of an expression, which is noted.
func (r *reference) typed(x *api.Expr) int {
	if x.Kind == api.XRec || x.Kind == api.XNew {
		if !slices.ContainsFunc(r.program.Defs, func(d api.Def) bool { return d.Name == x.S }) {
			refuse(x.At, api.ErrNoName, x.S)
		}
		if r.kind(r.named(x.S)) != api.TRec {
			refuse(x.At, api.ErrType, "")
		}
	}
	var parts []int
	for i := range x.Parts {
		parts = append(parts, r.typed(&x.Parts[i]))
	}
	var class int
	switch x.Kind {
	case api.XField, api.XCall, api.XApply:
		class = r.postfix(x, parts)
	case api.XVar, api.XSelf, api.XNil, api.XRec, api.XNew, api.XTo:
		class = r.primary(x, parts)
	default:
		class = r.signed(x, parts)
	}
	r.known[x] = class
	return class
}

func (r *reference) primary(x *api.Expr, parts []int) int {
	switch x.Kind {
	case api.XVar:
		if class := r.variable(x.S); class >= 0 {
			return class
		}
		for i := range r.program.Funcs {
			if r.program.Funcs[i].Name == x.S {
				return r.of(head(&r.program.Funcs[i]))
			}
		}
		refuse(x.At, api.ErrNoName, x.S)
	case api.XSelf:
		if r.code.Owner == "" {
			refuse(x.At, api.ErrSelf, "")
		}
		return r.named(r.code.Owner)
	case api.XNil:
		if r.kind(r.of(x.T[0])) != api.TPtr {
			refuse(x.At, api.ErrType, "")
		}
	case api.XTo:
		to := r.of(x.T[0])
		if !r.below(parts[0], to) && !(r.kind(parts[0]) == api.TIface && r.below(to, parts[0])) {
			refuse(x.At, api.ErrCast, "")
		}
	default:
		return r.literal(x, parts)
	}
	return r.of(x.T[0])
}

func (r *reference) literal(x *api.Expr, parts []int) int {
	node, _ := r.Node(r.named(x.S))
	fields, types := r.graph.Names(node), r.graph.Parts(node)
	for _, name := range x.Names {
		if !slices.Contains(fields, name) {
			refuse(x.At, api.ErrField, name)
		}
	}
	for _, name := range fields {
		if !slices.Contains(x.Names, name) {
			refuse(x.At, api.ErrCount, "")
		}
	}
	for i, name := range x.Names {
		if field, _ := r.Of(types[slices.Index(fields, name)]); !r.below(parts[i], field) {
			refuse(x.Parts[i].At, api.ErrType, "")
		}
	}
	if x.Kind == api.XNew {
		return r.of(pointer(x.S))
	}
	return r.named(x.S)
}

func (r *reference) postfix(x *api.Expr, parts []int) int {
	function := parts[0]
	if x.Kind == api.XApply {
		if r.kind(function) != api.TFn {
			refuse(x.Parts[0].At, api.ErrType, "")
		}
	} else {
		m, why := member.Lookup(r.Classes, parts[0], x.S)
		if why != api.OK {
			refuse(x.At, why, x.S)
		}
		if (m.Kind == api.MField) != (x.Kind == api.XField) {
			refuse(x.At, api.ErrField, x.S)
		}
		if x.Kind == api.XField {
			return m.Node
		}
		function = member.Signature(r.Classes, m)
	}
	node, _ := r.Node(function)
	head := r.graph.Parts(node)
	if len(parts) != len(head) {
		refuse(x.At, api.ErrCount, "")
	}
	for i := 1; i < len(parts); i++ {
		if parameter, _ := r.Of(head[i-1]); !r.below(parts[i], parameter) {
			refuse(x.Parts[i].At, api.ErrType, "")
		}
	}
	result, _ := r.Of(head[len(head)-1])
	return result
}

// signed is the class of what is made by signs, and of numbers, texts, bools.
func (r *reference) signed(x *api.Expr, parts []int) int {
	number, truth, text := r.basic(api.TInt), r.basic(api.TBool), r.basic(api.TText)
	all := func(class int) int {
		for i, p := range parts {
			if p != class {
				refuse(x.Parts[i].At, api.ErrType, "")
			}
		}
		return class
	}
	switch x.Kind {
	case api.XInt, api.XNeg, api.XMul, api.XSub:
		return all(number)
	case api.XBool, api.XNot, api.XAnd, api.XOr:
		return all(truth)
	case api.XText:
		return text
	}
	if parts[0] != number && parts[0] != text && !(x.Kind == api.XEq && parts[0] == truth) {
		refuse(x.Parts[0].At, api.ErrType, "")
	}
	if parts[1] != parts[0] {
		refuse(x.Parts[1].At, api.ErrType, "")
	}
	if x.Kind == api.XAdd {
		return parts[0]
	}
	return truth
}

// compare fails, unless the program is refused or told as the chapter says; it answers what is known of it, or the refusal.
func compare(t *testing.T, p api.Program) (*check.Checked, *check.Refusal) {
	t.Helper()
	want, refused := expected(&p)
	got, err := check.Program(p)
	if refused != nil {
		if r := refusal(t, p); r == nil || *r != *refused {
			t.Fatalf("%s\n%v, not %v", shown(p), err, refused)
		}
		return nil, refused
	}
	if err != nil {
		t.Fatalf("%s\n%v", shown(p), err)
	}
	var types []check.Typed
	var casts [2]int
	for _, x := range allExprs(&p) {
		types = append(types, check.Typed{Place: x.Place, Kind: x.Kind, Class: want.known[x]})
		if x.Kind == api.XTo && want.below(want.known[&x.Parts[0]], want.of(x.T[0])) {
			casts[0]++
		} else if x.Kind == api.XTo {
			casts[1]++
		}
		if x.Kind == api.XField || x.Kind == api.XCall { // P9.4
			if _, why := member.Lookup(got.Classes(), want.known[&x.Parts[0]], x.S); why != api.OK {
				t.Fatalf("%s\n%s: %v", shown(p), x.S, why)
			}
		}
	}
	all := []any{types, casts[0], casts[1], want.of(p.Main.Result), len(types) + len(allStmts(&p)), want.Text(), want.graph.Len(), want.graph.Roots()}
	if !reflect.DeepEqual(said(got), all) {
		t.Fatalf("%s\n%v\nnot\n%v", shown(p), said(got), all)
	}
	return got, nil
}

// shown is a program's text.
func shown(p api.Program) string {
	s, _ := syntax.Program(p)
	return s
}
