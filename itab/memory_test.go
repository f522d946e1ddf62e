package itab_test

import (
	"reflect"
	"slices"
	"testing"

	"coil/api"
	"coil/itab"
	"coil/subtype"
)

const kept = runs + "type C = {embed p *B; embed q {embed s K;};}; type K = interface {k() int; l() int;}; type L = interface {a() int; k() int; l() int; m() int;}; type T = interface {}; "

// spoil writes into all of a list, and its spare room.
func spoil[T any](l []T, with T) {
	l = l[:cap(l)]
	for i := range l {
		l[i] = with
	}
}

// spoilTable writes into all lists of a table.
func spoilTable(x itab.Table) {
	for _, m := range x.Rows[:cap(x.Rows)] {
		spoil(m.Path, "spoilt")
	}
	spoil(x.Rows, api.Member{Name: "spoilt", Path: []string{"spoilt"}})
}

// copied is a table with lists of its own.
func copied(x itab.Table) itab.Table {
	x.Rows = slices.Clone(x.Rows)
	for i := range x.Rows {
		x.Rows[i].Path = slices.Clone(x.Rows[i].Path)
	}
	return x
}

// told is all that there is to say of a relation and its tables.
func told(r *subtype.Relation) []any {
	said := []any{r.Text(), r.Graph().Len(), r.All()}
	for class := range r.Len() {
		for iface := range r.Len() {
			x, why := itab.Build(r, class, iface)
			said = append(said, x, why)
		}
	}
	return said
}

// askers are the calls that answer a table.
func askers(t *testing.T, r *subtype.Relation) map[string]func(class, iface int) (itab.Table, api.Errno) {
	return map[string]func(class, iface int) (itab.Table, api.Errno){
		"Build": func(class, iface int) (itab.Table, api.Errno) { return itab.Build(r, class, iface) },
		"Get":   opened(t, r, 3).Get,
		"Row": func(class, iface int) (itab.Table, api.Errno) { // row by row, from one cache
			c, x := opened(t, r, 1), itab.Table{Class: class, Iface: iface}
			for {
				m, why := c.Row(class, iface, len(x.Rows))
				switch why {
				case api.OK:
					x.Rows = append(x.Rows, m)
				case api.ErrRange:
					return x, api.OK
				default:
					return itab.Table{}, why
				}
			}
		},
	}
}

// TestAnswers: R2, what is written into answers, or into their spare room, changes nothing of the relation, of what the
// cache keeps and of other answers.
func TestAnswers(t *testing.T) {
	r := made(t, kept)
	before := told(r)
	for name, ask := range askers(t, r) {
		built, paths := 0, 0
		for class := range r.Len() {
			for iface := range r.Len() {
				first, why := ask(class, iface)
				if why != api.OK {
					continue
				}
				second, _ := ask(class, iface)
				same := copied(second)
				for _, m := range first.Rows {
					paths += len(m.Path)
				}
				spoilTable(first)
				if !reflect.DeepEqual(second, same) {
					t.Error(name, class, iface, second, same)
				}
				spoilTable(second)
				if third, _ := ask(class, iface); !itab.Same(third, same) {
					t.Error(name, class, iface, third, same)
				}
				built++
			}
		}
		if built < 20 || paths < 10 {
			t.Error(name, "hardly met", built, paths)
		}
	}
	if !reflect.DeepEqual(told(r), before) || !reflect.DeepEqual(told(made(t, kept)), before) {
		t.Error("the relation has changed")
	}
}

// TestPaths: R2, no two lists of one answer share memory, their spare room included.
func TestPaths(t *testing.T) {
	r := made(t, kept)
	for name, ask := range askers(t, r) {
		x, why := ask(at(t, r, "C"), at(t, r, "L"))
		if list(x.Rows) != "a: method of B by p; k: iface by q s; l: iface by q s; m: method of A by p b" || why != api.OK {
			t.Fatal(name, list(x.Rows), why)
		}
		for i := range x.Rows {
			same := copied(x)
			spoil(x.Rows[i].Path, "spoilt")
			_ = append(x.Rows[i].Path, "spoilt")
			same.Rows[i].Path = x.Rows[i].Path
			if !reflect.DeepEqual(x, same) {
				t.Error(name, i, x, same)
			}
		}
	}
}

// TestHeld: R2, what is written into Held's answer changes nothing.
func TestHeld(t *testing.T) {
	c := opened(t, made(t, kept), 3)
	gets(t, c, "A < I", "B < J", "C < L", "A < I")
	first, second := c.Held(), c.Held()
	same := slices.Clone(second)
	spoil(first, [2]int{99, 99})
	if !slices.Equal(second, same) {
		t.Error(second)
	}
	keeps(t, c, 3, 7, "A < I", "C < L", "B < J")
	_ = append(second[:1], [2]int{-1, -1}, [2]int{-1, -1})
	keeps(t, c, 3, 7, "A < I", "C < L", "B < J")
	gets(t, c, "C < K")
	keeps(t, c, 4, 9, "C < K", "A < I", "C < L")
}

// TestStays: R2, answers stay as they are, whatever is asked later.
func TestStays(t *testing.T) {
	r := made(t, kept)
	for _, most := range []int{1, 2, api.MaxTabs} {
		c := opened(t, r, most)
		gets(t, c, "B < J", "A < I")
		p := pair(t, r, "C < L")
		x, _ := c.Get(p[0], p[1])
		m, _ := c.Row(p[0], p[1], 3)
		held := c.Held()
		table, row, pairs := copied(x), copied(itab.Table{Rows: []api.Member{m}}), slices.Clone(held)
		for range 3 {
			for class := range r.Len() {
				for iface := range r.Len() {
					y, _ := c.Get(class, iface)
					spoilTable(y)
					c.Row(class, iface, 0)
				}
			}
			c.Held()
			c.Reset(r)
		}
		if len(x.Rows) != 4 || len(m.Path) != 2 || len(held) != min(most, 3) {
			t.Error(x, m, held)
		}
		if !reflect.DeepEqual(x, table) || !reflect.DeepEqual([]api.Member{m}, row.Rows) || !slices.Equal(held, pairs) {
			t.Error(x, m, held)
		}
	}
}

// TestHandedIn: R2, tables that are handed in to Same are not changed, their spare room included.
func TestHandedIn(t *testing.T) {
	path := append(make([]string, 0, 3), "b", "a")
	path[:3][2] = "spare"
	rows := append(make([]api.Member, 0, 2), api.Member{Path: path, Name: "n"})
	rows[:2][1].Name = "spare"
	x := itab.Table{Class: 1, Iface: 2, Rows: rows}
	if !itab.Same(x, copied(x)) || !itab.Same(x, x) || itab.Same(x, itab.Table{Class: 1, Iface: 2}) {
		t.Error("Same")
	}
	if !slices.Equal(path[:3], []string{"b", "a", "spare"}) || rows[0].Name != "n" || rows[:2][1].Name != "spare" {
		t.Error(path[:3], rows[:2])
	}
}
