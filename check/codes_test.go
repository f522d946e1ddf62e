package check_test

import (
	"reflect"
	"testing"

	"coil/api"
	"coil/check"
)

// untyped is a tree without its classes, and without what a machine does not need of it; the classes are told in their order.
func untyped(x check.Expr, classes *[]int) api.Expr {
	*classes = append(*classes, x.Class)
	made := api.Expr{Kind: x.Kind, N: x.N, S: x.S, Names: x.Names}
	for _, p := range x.Parts {
		made.Parts = append(made.Parts, untyped(p, classes))
	}
	return made
}

func bare(x api.Expr) api.Expr {
	made := api.Expr{Kind: x.Kind, N: x.N, S: x.S, Names: x.Names}
	for _, p := range x.Parts {
		made.Parts = append(made.Parts, bare(p))
	}
	return made
}

// sameBlock fails, unless statements are the same but for places, types and classes.
func sameBlock(t *testing.T, got []check.Stmt, want []api.Stmt, classes *[]int) {
	t.Helper()
	if len(got) != len(want) {
		t.Fatal(len(got), len(want))
	}
	for i, s := range got {
		w := want[i]
		if x := untyped(s.X, classes); s.Kind != w.Kind || s.Name != w.Name || !reflect.DeepEqual(x, bare(w.X[0])) {
			t.Errorf("%+v, not %+v", s, w)
		}
		sameBlock(t, s.Body, w.Body, classes)
		sameBlock(t, s.Else, w.Else, classes)
	}
}

// TestCodes: the trees that were checked, each expression with the class that Types tells.
func TestCodes(t *testing.T) {
	for _, src := range []string{unmarked(whole, 0), function("let v C = C{b: pb, i: fn2(b, g(1, i).x), f: c.f}; if v.m() < 2 { print t to {a int; b fn(I, J) T;}; } else { while o { b.n(c); } }"), "main int { return 1; }"} {
		p := parsed(t, src)
		c := accepted(t, src)
		codes := c.Codes()
		all := codesOf(&p)
		if len(codes) != len(all) {
			t.Fatal(len(codes), len(all))
		}
		var classes, want []int
		for i, code := range codes {
			var params []string
			for _, p := range all[i].Params {
				params = append(params, p.Name)
			}
			if code.Owner != all[i].Owner || code.Name != all[i].Name || !reflect.DeepEqual(code.Params, params) {
				t.Errorf("%+v, not %+v", code, all[i])
			}
			sameBlock(t, code.Body, all[i].Body, &classes)
		}
		for _, x := range c.Types() {
			want = append(want, x.Class)
		}
		if !reflect.DeepEqual(classes, want) {
			t.Errorf("%s: %v, not %v", src, classes, want)
		}
		for _, f := range p.Funcs {
			sort := api.Type{Kind: api.TFn}
			for _, p := range f.Params {
				sort.Parts = append(sort.Parts, p.T)
			}
			ids, err := c.Classes().Ids(api.Type{Kind: api.TFn, Parts: append(sort.Parts, f.Result)})
			if class, ok := c.Func(f.Name); err != nil || !ok || class != ids[0] {
				t.Error(f.Name, class, ids, err)
			}
		}
		for _, name := range []string{"", "main", "noone", "m", "A"} {
			if class, ok := c.Func(name); ok || class != 0 {
				t.Error(name, class)
			}
		}
	}
}

// spoilCodes writes into all lists of codes.
func spoilCodes(codes []check.Code) {
	var exprs func(l []check.Expr)
	exprs = func(l []check.Expr) {
		for i := range l {
			for n := range l[i].Names {
				l[i].Names[n] = "spoilt"
			}
			exprs(l[i].Parts)
			l[i] = check.Expr{S: "spoilt"}
		}
	}
	var stmts func(l []check.Stmt)
	stmts = func(l []check.Stmt) {
		for i := range l {
			exprs([]check.Expr{l[i].X})
			stmts(l[i].Body)
			stmts(l[i].Else)
			l[i] = check.Stmt{Name: "spoilt"}
		}
	}
	for i := range codes {
		stmts(codes[i].Body)
		for n := range codes[i].Params {
			codes[i].Params[n] = "spoilt"
		}
		codes[i] = check.Code{Name: "spoilt"}
	}
}

// TestCodesAnswers: R2, what is written into the codes changes nothing of those that are told later.
func TestCodesAnswers(t *testing.T) {
	c := accepted(t, unmarked(whole, 0))
	first := c.Codes()
	spoilCodes(c.Codes())
	if again := c.Codes(); !reflect.DeepEqual(first, again) || len(first) < 3 {
		t.Error("an answer has changed")
	}
}
