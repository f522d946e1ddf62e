package member_test

import (
	"reflect"
	"slices"
	"testing"

	"coil/api"
	"coil/canon"
	"coil/member"
)

const kept = runs + "type G = {embed d B; embed f F; embed q *{embed p *{k int; l int; embed s interface {w() int;};};}; g int;}; method G.z(x int) A {}"

// told is all that there is to say of the classes and their members.
func told(c *canon.Classes) []any {
	said := []any{c.Text(), c.Graph().Len(), c.Graph().Roots()}
	for class := range c.Len() {
		said = append(said, member.All(c, class), member.Methods(c, class))
		for _, name := range []string{"x", "m", "a", "k", "l", "s", "w", "i", "z", "g", "no"} {
			m, why := member.Lookup(c, class, name)
			said = append(said, m, why, member.Depths(c, class, name), member.Signature(c, m))
		}
	}
	return said
}

// spoil writes into all of a list, and its spare room.
func spoil[T any](l []T, with T) {
	l = l[:cap(l)]
	for i := range l {
		l[i] = with
	}
}

// copied is a list with paths of its own.
func copied(l []api.Member) []api.Member {
	l = slices.Clone(l)
	for i := range l {
		l[i].Path = slices.Clone(l[i].Path)
	}
	return l
}

// TestAnswers: R2, what is written into answers, or into their spare room, changes nothing of the classes and of other
// answers.
func TestAnswers(t *testing.T) {
	c := made(t, kept)
	before := told(c)
	for class := range c.Len() {
		for _, ask := range []func(*canon.Classes, int) []api.Member{member.All, member.Methods} {
			first, second := ask(c, class), ask(c, class)
			same := copied(second)
			for i := range first {
				spoil(first[i].Path, "spoilt")
			}
			spoil(first, api.Member{Name: "spoilt"})
			if !reflect.DeepEqual(second, same) {
				t.Error(class, second, same)
			}
		}
		for _, name := range []string{"x", "m", "k", "w"} {
			first, _ := member.Lookup(c, class, name)
			second, _ := member.Lookup(c, class, name)
			same := slices.Clone(second.Path)
			spoil(first.Path, "spoilt")
			if !slices.Equal(second.Path, same) {
				t.Error(class, name, second)
			}
			spoil(second.Path, "spoilt")
			counts, others := member.Depths(c, class, name), member.Depths(c, class, name)
			kept := slices.Clone(others)
			spoil(counts, 99)
			if !slices.Equal(others, kept) {
				t.Error(class, name, others)
			}
		}
	}
	if !reflect.DeepEqual(told(c), before) {
		t.Error("the members have changed")
	}
}

// TestPaths: R2, no two paths of one answer share memory, their spare room included.
func TestPaths(t *testing.T) {
	c := made(t, kept)
	long := 0
	for class := range c.Len() {
		l := member.All(c, class)
		for i := range l {
			long = max(long, len(l[i].Path))
			same := copied(l)
			spoil(l[i].Path, "spoilt")
			_ = append(l[i].Path, "spoilt")
			same[i].Path = l[i].Path
			if !reflect.DeepEqual(l, same) {
				t.Error(class, l, same)
			}
		}
	}
	if long != 3 {
		t.Error(long)
	}
}

// TestStays: R2, answers stay as they are, whatever is asked or added later.
func TestStays(t *testing.T) {
	c := made(t, kept)
	class := at(t, c, "G")
	all, depths := member.All(c, class), member.Depths(c, class, "k")
	m, _ := member.Lookup(c, class, "k")
	sameAll, sameDepths, same := copied(all), slices.Clone(depths), copied([]api.Member{m})
	before := told(c)
	more, _, err := c.With(typ(t, "{embed g G; k text;}"), typ(t, "*G"))
	if err != nil {
		t.Fatal(err)
	}
	told(more)
	if _, err := c.Graph().Add(typ(t, "{embed g G;}")); err != nil {
		t.Error(err)
	}
	if !reflect.DeepEqual(told(c), before) {
		t.Error("the members have changed")
	}
	if !reflect.DeepEqual(all, sameAll) || !slices.Equal(depths, sameDepths) || !reflect.DeepEqual([]api.Member{m}, same) {
		t.Error(all, depths, m)
	}
}

// TestHandedIn: R2, a Member that is handed in is not changed, its spare room included.
func TestHandedIn(t *testing.T) {
	c := made(t, kept)
	path := append(make([]string, 0, 4), "a", "b")
	path[:3][2] = "spare"
	m := api.Member{Path: path, Kind: api.MMethod, Owner: "A", Name: "m", Node: at(t, c, "fn() int")}
	if got := member.Signature(c, m); got != m.Node {
		t.Error(got)
	}
	if !slices.Equal(path[:4], []string{"a", "b", "spare", ""}) {
		t.Error(path[:4])
	}
}
