package check_test

import (
	"reflect"

	"coil/api"
)

// copier copies trees deeply. Each list that it makes has some room behind its length, which is filled as its items are.
type copier struct {
	room  int
	lists []reflect.Value // all that it made, as long as their room is
	as    []reflect.Value // how they were
}

func (c *copier) program(p api.Program) api.Program {
	return c.copied(reflect.ValueOf(p)).Interface().(api.Program)
}

func (c *copier) copied(v reflect.Value) reflect.Value {
	switch v.Kind() {
	case reflect.Struct:
		s := reflect.New(v.Type()).Elem()
		for i := range v.NumField() {
			s.Field(i).Set(c.copied(v.Field(i)))
		}
		return s
	case reflect.Slice:
		if v.IsNil() {
			return v
		}
		l := reflect.MakeSlice(v.Type(), v.Len()+c.room, v.Len()+c.room)
		for i := range v.Len() {
			l.Index(i).Set(c.copied(v.Index(i)))
		}
		for i := range min(c.room, v.Len()) {
			l.Index(v.Len() + i).Set(c.copied(v.Index(i)))
		}
		c.lists = append(c.lists, l)
		c.as = append(c.as, reflect.AppendSlice(reflect.MakeSlice(v.Type(), 0, 0), l))
		return l.Slice(0, v.Len())
	}
	return v
}

// unchanged: are all lists as they were made, their room included?
func (c *copier) unchanged() bool {
	for i, l := range c.lists {
		if !reflect.DeepEqual(l.Interface(), c.as[i].Interface()) {
			return false
		}
	}
	return true
}

// spoil empties all items of all lists.
func (c *copier) spoil() {
	for _, l := range c.lists {
		for i := range l.Len() {
			l.Index(i).SetZero()
		}
	}
}

// clone is another tree like it.
func clone[T any](x T) T { return new(copier).copied(reflect.ValueOf(&x).Elem()).Interface().(T) }

// codesOf points to the program's codes in their order.
func codesOf(p *api.Program) []*api.Code {
	var l []*api.Code
	for i := range p.Methods {
		l = append(l, &p.Methods[i])
	}
	for i := range p.Funcs {
		l = append(l, &p.Funcs[i])
	}
	return append(l, &p.Main)
}

// blocksOf points to the lists of statements, each ahead of those within it.
func blocksOf(body *[]api.Stmt) []*[]api.Stmt {
	l := []*[]api.Stmt{body}
	for i := range *body {
		for _, b := range []*[]api.Stmt{&(*body)[i].Body, &(*body)[i].Else} {
			if len(*b) > 0 {
				l = append(l, blocksOf(b)...)
			}
		}
	}
	return l
}

// stmtsOf points to the statements, each ahead of those within it.
func stmtsOf(l []api.Stmt) []*api.Stmt {
	var all []*api.Stmt
	for i := range l {
		all = append(append(append(all, &l[i]), stmtsOf(l[i].Body)...), stmtsOf(l[i].Else)...)
	}
	return all
}

// exprsOf points to the expressions, each ahead of its parts.
func exprsOf(l []api.Expr) []*api.Expr {
	var all []*api.Expr
	for i := range l {
		all = append(append(all, &l[i]), exprsOf(l[i].Parts)...)
	}
	return all
}

// allExprs points to the expressions of all bodies, in the order of P9.1, 4.
func allExprs(p *api.Program) []*api.Expr {
	var all []*api.Expr
	for _, c := range codesOf(p) {
		for _, s := range stmtsOf(c.Body) {
			all = append(all, exprsOf(s.X)...)
		}
	}
	return all
}

// allStmts points to the statements of all bodies.
func allStmts(p *api.Program) []*api.Stmt {
	var all []*api.Stmt
	for _, c := range codesOf(p) {
		all = append(all, stmtsOf(c.Body)...)
	}
	return all
}
