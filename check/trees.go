package check

import (
	"slices"

	"coil/api"
)

// Code is a method, a function or the main one of a program that may run: what a machine needs of it.
type Code struct {
	Owner, Name string
	Params      []string
	Body        []Stmt
}

// Stmt is a statement of such a program.
type Stmt struct {
	Kind       int
	Name       string
	X          Expr
	Body, Else []Stmt
}

// Expr is an expression of such a program, with the class of its type.
type Expr struct {
	Kind, Class, N int
	S              string
	Names          []string
	Parts          []Expr
}

// Codes lists the methods, the functions and the main one.
func (c *Checked) Codes() []Code {
	codes := slices.Clone(c.codes)
	for i, code := range codes {
		codes[i].Params = slices.Clone(code.Params)
		codes[i].Body = copiedStmts(code.Body)
	}
	return codes
}

func copiedStmts(l []Stmt) []Stmt {
	l = slices.Clone(l)
	for i, s := range l {
		l[i].X = copiedExpr(s.X)
		l[i].Body = copiedStmts(s.Body)
		l[i].Else = copiedStmts(s.Else)
	}
	return l
}

func copiedExpr(x Expr) Expr {
	x.Names = slices.Clone(x.Names)
	x.Parts = slices.Clone(x.Parts)
	for i, part := range x.Parts {
		x.Parts[i] = copiedExpr(part)
	}
	return x
}

// pairing gives expressions their classes: what is left of the list of types, which tells them in the order in which the
// expressions are come to.
type pairing []Typed

func (p *pairing) codes(l []api.Code) []Code {
	codes := make([]Code, len(l))
	for i, c := range l {
		codes[i] = Code{Owner: c.Owner, Name: c.Name, Body: p.stmts(c.Body)}
		for _, param := range c.Params {
			codes[i].Params = append(codes[i].Params, param.Name)
		}
	}
	return codes
}

func (p *pairing) stmts(l []api.Stmt) []Stmt {
	stmts := make([]Stmt, len(l))
	for i, s := range l {
		stmts[i] = Stmt{Kind: s.Kind, Name: s.Name, X: p.expr(s.X[0])}
		stmts[i].Body = p.stmts(s.Body)
		stmts[i].Else = p.stmts(s.Else)
	}
	return stmts
}

func (p *pairing) expr(x api.Expr) Expr {
	made := Expr{Kind: x.Kind, Class: (*p)[0].Class, N: x.N, S: x.S, Names: slices.Clone(x.Names)}
	*p = (*p)[1:]
	for _, part := range x.Parts {
		made.Parts = append(made.Parts, p.expr(part))
	}
	return made
}
