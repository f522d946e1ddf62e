package check

import "coil/api"

// body checks one body: what it knows of the program is the embedded checker's.
type body struct {
	*checker
	self      int
	method    bool // else there is no self
	result    int
	variables map[string]int // by name: the class of each that is known at the place that was come to
}

// check goes through the body of a method, a function or the main one.
func (c *checker) check(code api.Code) *Refusal {
	b := body{checker: c, variables: map[string]int{}}
	b.self, b.method = c.Root(code.Owner)
	head := c.head(code)
	b.result = head[len(head)-1]
	for i, p := range code.Params {
		b.variables[p.Name] = head[i]
	}
	if r := b.block(code.Body); r != nil {
		return r
	}
	if !returns(code.Body) {
		return &Refusal{Place: code.Place, Why: api.ErrReturn, Name: code.Name}
	}
	return nil
}

func returns(l []api.Stmt) bool { return len(l) > 0 && l[len(l)-1].Kind == api.SReturn }

// block forgets its variables in the end. None of them has hidden another one: that would be refused.
func (b *body) block(l []api.Stmt) *Refusal {
	for _, s := range l {
		if r := b.stmt(s); r != nil {
			return r
		}
	}
	for _, s := range l {
		if s.Kind == api.SLet {
			delete(b.variables, s.Name)
		}
	}
	return nil
}

func (b *body) stmt(s api.Stmt) *Refusal {
	b.checked.size++
	switch s.Kind {
	case api.SLet:
		return b.let(s)
	case api.SSet:
		return b.set(s)
	}
	x := s.X[0]
	class, r := b.expr(x)
	if r != nil {
		return r
	}
	switch s.Kind {
	case api.SIf, api.SWhile:
		if class != b.truth {
			return wrong(x)
		}
		if r := b.block(s.Body); r != nil {
			return r
		}
		return b.block(s.Else)
	case api.SReturn:
		return b.fit(x, class, b.result)
	}
	return nil
}

func (b *body) let(s api.Stmt) *Refusal {
	x, declared := s.X[0], 0
	if len(s.T) > 0 {
		declared = b.next() // it is named ahead of the types in the expression
	}
	class, r := b.expr(x)
	if r != nil {
		return r
	}
	if _, ok := b.variables[s.Name]; ok {
		return &Refusal{Place: s.Place, Why: api.ErrTwice, Name: s.Name}
	}
	if len(s.T) > 0 {
		if r := b.fit(x, class, declared); r != nil {
			return r
		}
		class = declared
	}
	b.variables[s.Name] = class
	return nil
}

func (b *body) set(s api.Stmt) *Refusal {
	variable, ok := b.variables[s.Name]
	if !ok {
		return &Refusal{Place: s.Place, Why: api.ErrNoName, Name: s.Name}
	}
	class, r := b.expr(s.X[0])
	if r != nil {
		return r
	}
	return b.fit(s.X[0], class, variable)
}

// fit refuses an expression of the first class where one of the second must stand.
func (b *body) fit(x api.Expr, class, wanted int) *Refusal {
	if !b.below(class, wanted) {
		return wrong(x)
	}
	return nil
}

// wrong refuses an expression for its type.
func wrong(x api.Expr) *Refusal { return &Refusal{Place: x.Place, Why: api.ErrType} }
