package subtype_test

import (
	"reflect"
	"slices"
	"testing"

	"coil/api"
	"coil/subtype"
)

const kept = runs + "type P = {a *P; b {c I; embed d A;}; e fn(I, J) K;}; type Q = {a *Q; b {c I; embed d A;}; e fn(J, J) J;}; type T = interface {}; "

// told is all that there is to say of a relation.
func told(r *subtype.Relation) []any {
	said := []any{r.Text(), r.Graph().Len(), r.All()}
	for a := range r.Len() {
		said = append(said, r.Label(a), r.Children(a))
		for b := range r.Len() {
			rule, ok := r.Rule(a, b)
			steps, not := r.Why(a, b)
			said = append(said, rule, ok, steps, not)
		}
	}
	return said
}

// spoil writes into all of a list, and its spare room.
func spoil[T any](l []T, with T) {
	l = l[:cap(l)]
	for i := range l {
		l[i] = with
	}
}

// TestAnswers: R2, what is written into answers, or into their spare room, changes nothing of the classes, of the relation
// and of other answers.
func TestAnswers(t *testing.T) {
	c := made(t, kept, "*A", "**A")
	r := subtype.New(c)
	before := told(r)
	for a := range r.Len() {
		for b := range r.Len() {
			rule, _ := r.Rule(a, b)
			other, _ := r.Rule(a, b)
			same := slices.Clone(other)
			spoil(rule, [2]int{99, 99})
			if !slices.Equal(other, same) {
				t.Error("Rule", a, b, other, same)
			}
			spoil(other, [2]int{-1, 0})
			steps, _ := r.Why(a, b)
			others, _ := r.Why(a, b)
			kept := slices.Clone(others)
			spoil(steps, api.Step{Name: "spoilt", N: 99})
			if !slices.Equal(others, kept) {
				t.Error("Why", a, b, others, kept)
			}
			spoil(others, api.Step{Name: "spoilt"})
		}
		spoil(r.Children(a), 99)
	}
	if !reflect.DeepEqual(told(r), before) || !reflect.DeepEqual(told(subtype.New(c)), before) {
		t.Error("the relation has changed")
	}
}

// TestRows: R2, no two rows of All share memory, in one answer or in two, their spare room included.
func TestRows(t *testing.T) {
	r := subtype.New(made(t, kept))
	rows, others := r.All(), r.All()
	want := copied(rows)
	for a := range rows {
		for _, with := range []bool{true, false} {
			spoil(rows[a], with)
			_ = append(rows[a], with)
			want[a] = slices.Clone(rows[a])
			if !reflect.DeepEqual(rows, want) {
				t.Error(a, rows, want)
			}
		}
	}
	if !reflect.DeepEqual(others, r.All()) || !reflect.DeepEqual(others, subtype.New(r.Classes()).All()) {
		t.Error("other answers have changed")
	}
	spoil(others, nil)
	if slices.ContainsFunc(r.All(), func(row []bool) bool { return row == nil }) {
		t.Error("the relation has changed")
	}
}

func copied(rows [][]bool) [][]bool {
	l := make([][]bool, len(rows))
	for i := range rows {
		l[i] = slices.Clone(rows[i])
	}
	return l
}

// TestStays: R2, lists that were answered stay as they are, whatever is asked later.
func TestStays(t *testing.T) {
	r := subtype.New(made(t, kept))
	p, _ := r.Root("P")
	q, _ := r.Root("Q")
	rule, _ := r.Rule(p, q)
	steps, _ := r.Why(p, q)
	sameRule, sameSteps := slices.Clone(rule), slices.Clone(steps)
	rows := r.All()
	sameRows := copied(rows)
	told(r)
	if _, err := subtype.Below(r.Classes(), typ(t, "{a *P; z int;}"), typ(t, "{a *Q; z int;}")); err != nil {
		t.Error(err)
	}
	more, _, err := r.With(typ(t, "{a *P; z int;}"), typ(t, "{a *Q; z int;}"))
	if err != nil {
		t.Fatal(err)
	}
	told(subtype.New(more))
	if len(rule) == 0 || len(steps) == 0 || !slices.Equal(rule, sameRule) || !slices.Equal(steps, sameSteps) || !reflect.DeepEqual(rows, sameRows) {
		t.Error(rule, steps, rows)
	}
}

// TestHandedIn: R2, types that are handed in are not changed, their spare room included, and not kept.
func TestHandedIn(t *testing.T) {
	c := made(t, kept)
	parts := append(make([]api.Type, 0, 3), typ(t, "I"), typ(t, "A"))
	parts[:3][2] = typ(t, "bool")
	names := append(make([]string, 0, 3), "b", "a")
	names[:3][2] = "spare"
	embeds := append(make([]bool, 0, 3), false, false)
	embeds[:3][2] = true
	a := api.Type{Kind: api.TRec, Names: names, Embeds: embeds, Parts: parts}
	for range 2 {
		if ok, err := subtype.Below(c, a, typ(t, "{a J; b T;}")); !ok || err != nil {
			t.Error(ok, err)
		}
		if ok, err := subtype.Below(c, typ(t, "{a J; b T;}"), a); ok || err != nil {
			t.Error(ok, err)
		}
	}
	if !slices.Equal(names[:3], []string{"b", "a", "spare"}) || !slices.Equal(embeds[:3], []bool{false, false, true}) ||
		!reflect.DeepEqual(parts[:3], []api.Type{typ(t, "I"), typ(t, "A"), typ(t, "bool")}) {
		t.Error(names[:3], embeds[:3], parts[:3])
	}
}
