package interp_test

import (
	"reflect"
	"slices"
	"testing"

	"coil/api"
	"coil/check"
	"coil/interp"
)

// copier copies values, with lists that have spare room, and remembers all of them as they were.
type copier struct {
	room   int
	lists  [][]api.Value
	before [][]api.Value
}

func (c *copier) all(l []api.Value) []api.Value {
	if l == nil {
		return nil
	}
	made := make([]api.Value, 0, len(l)+c.room)
	for _, v := range l {
		v.Parts = c.all(v.Parts)
		made = append(made, v)
	}
	whole := made[:cap(made)]
	for i := len(made); i < len(whole); i++ {
		whole[i] = api.Value{Kind: -i, S: "spare"}
	}
	c.lists = append(c.lists, whole)
	c.before = append(c.before, slices.Clone(whole))
	return made
}

// unchanged: are all lists as they were, their spare room too?
func (c *copier) unchanged() bool { return reflect.DeepEqual(c.lists, c.before) }

// spoil writes into all lists.
func (c *copier) spoil() {
	for _, l := range c.lists {
		for i := range l {
			l[i] = api.Value{Kind: 77, Class: 77, N: 77, S: "spoilt"}
		}
	}
}

// said is all that there is to say of a checked program.
func said(c *check.Checked) []any {
	up, down := c.Casts()
	return []any{c.Types(), up, down, c.Result(), c.Size(), c.Classes().Text(), c.Classes().Graph().Len(), c.Classes().Graph().Roots(), c.Codes()}
}

// TestHandedIn: R2, what is handed in is not changed, its spare room included, and not kept.
func TestHandedIn(t *testing.T) {
	w := calledWorld(t)
	told := said(w.Checked)
	a := w.rec("A", w.num(4))
	lists := w.unsound()
	lists["iface"] = append(lists["iface"], []api.Value{a}, []api.Value{w.ptr("*C", w.rec("C", w.ptr("*A", a)))}, []api.Value{w.ptr("*A")})
	lists["any"] = append(lists["any"], []api.Value{w.rec("O", w.rec("O", a, a), w.fn("fn(T) A", "up"))})
	lists["two"] = append(lists["two"], []api.Value{w.text("a"), w.truth(1)})
	lists["wide"] = append(lists["wide"], []api.Value{w.rec("W", a, w.fn("fn(T) A", "up"), w.ptr("*W"), w.ptr("*L"))})
	right := 0
	for name, rows := range lists {
		for _, args := range rows {
			want := interp.Call(w.Checked, 99, name, args...)
			if want.Why != api.ErrArg {
				right++
			}
			for room := range 3 {
				c := copier{room: room}
				if got := interp.Call(w.Checked, 99, name, c.all(args)...); !same(got, want) {
					t.Errorf("%s of %+v: %+v, not %+v", name, args, got, want)
				}
				if !c.unchanged() {
					t.Errorf("%s of %+v: changed, with room for %d", name, args, room)
				}
				c.spoil()
			}
		}
	}
	if right != 6 || !reflect.DeepEqual(said(w.Checked), told) {
		t.Error("the program has changed", right)
	}
}

// TestAnswers: R2, what is written into an outcome, or into its spare room, changes nothing of others; nor does a run, of any
// program, change what later ones come to.
func TestAnswers(t *testing.T) {
	c := checked(t, set+calls+"main text { let i = 0; while i < 5 { print of(i).n(A{x: i}).m(); i = i + 1; } return \"all\"; }")
	told := said(c)
	first := interp.Run(c, 999)
	kept := slices.Clone(first.Out)
	for _, fuel := range []int{999, 20, 5, 0, -1} {
		o := interp.Run(c, fuel)
		o.Out = o.Out[:cap(o.Out)]
		for i := range o.Out {
			o.Out[i] = "spoilt"
		}
	}
	interp.Run(checked(t, "main int { print 1; return nil *{x int;}.x; }"), 9)
	again := interp.Run(c, 999)
	if !slices.Equal(first.Out, kept) || !same(again, first) || !reflect.DeepEqual(said(c), told) || first.Value != "all" || len(kept) != 10 {
		t.Error("an answer has changed", first, again)
	}
}

// TestProgram: R2, a run does not hang on the tree that was checked, once it is checked.
func TestProgram(t *testing.T) {
	p := parsed(t, set+calls+"main J { let i = 0; while i < 2 { if i == 1 { print L{n: say(i), next: nil *L}; } else { print twice(5); } i = i + 1; } return of(1).n(A{x: 2}); }")
	c := accepted(t, p)
	want := interp.Run(c, 99)
	spoilt := api.Expr{Kind: api.XInt, N: 99}
	var exprs func(l []api.Expr)
	exprs = func(l []api.Expr) {
		for i := range l {
			exprs(l[i].Parts)
			for n := range l[i].Names {
				l[i].Names[n] = "spoilt"
			}
			l[i] = spoilt
		}
	}
	var stmts func(l []api.Stmt)
	stmts = func(l []api.Stmt) {
		for i := range l {
			exprs(l[i].X)
			stmts(l[i].Body)
			stmts(l[i].Else)
			l[i] = api.Stmt{Kind: api.SReturn, X: []api.Expr{spoilt}}
		}
	}
	for _, l := range [][]api.Code{p.Methods, p.Funcs, {p.Main}} {
		for i := range l {
			stmts(l[i].Body)
			for n := range l[i].Params {
				l[i].Params[n].Name = "spoilt"
			}
			l[i] = api.Code{}
		}
	}
	if o := interp.Run(c, 99); !same(o, want) || o.Why != api.OK || o.Value != "{x: 3}" || len(o.Out) != 4 {
		t.Error(o, want)
	}
}
