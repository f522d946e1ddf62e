package unfold_test

import (
	"slices"
	"testing"

	"coil/api"
	"coil/unfold"
)

const kept = runs + "type D = {embed b A; a fn(int, D) bool;}; method D.m() int {} type E = interface {z() int; a(int) E;};"

// told is all that the graph and this package say of a graph's nodes.
func (d drawn) told() []any {
	l := []any{d.Len()}
	for n := range d.Len() {
		l = append(l, d.Kind(n), d.Owner(n), unfold.Label(d.Graph, n), unfold.Text(d.Graph, n, 5))
		for _, x := range [][]int{d.Parts(n), unfold.Children(d.Graph, n), unfold.Reach(d.Graph, n)} {
			for _, p := range x {
				l = append(l, p)
			}
		}
		for i, name := range d.Names(n) {
			l = append(l, name, i < len(d.Embeds(n)) && d.Embeds(n)[i])
		}
		for m := range d.Len() {
			path, ok := unfold.Differ(d.Graph, n, m)
			l = append(l, shown(path), ok)
		}
	}
	return l
}

// fill writes into all of a list, and its spare room.
func fill[T any](l []T, x T) {
	l = l[:cap(l)]
	for i := range l {
		l[i] = x
	}
}

// TestAnswers: R2, answers are new memory: writing into them, or into their spare room, changes nothing of the graph, and
// nothing of another answer.
func TestAnswers(t *testing.T) {
	d := made(t, kept)
	before := d.told()
	for n := range d.Len() {
		for m := range d.Len() {
			path, _ := unfold.Differ(d.Graph, n, m)
			other, _ := unfold.Differ(d.Graph, n, m)
			same := slices.Clone(other)
			fill(path, api.Step{Name: "spoilt", N: 99})
			if !slices.Equal(other, same) {
				t.Error(n, m, other, same)
			}
		}
		for _, list := range []func() []int{
			func() []int { return unfold.Children(d.Graph, n) },
			func() []int { return unfold.Reach(d.Graph, n) },
		} {
			l, other := list(), list()
			same := slices.Clone(other)
			fill(l, 99)
			if !slices.Equal(other, same) {
				t.Error(n, other, same)
			}
		}
	}
	if !slices.Equal(d.told(), before) {
		t.Error("changed")
	}
}

// TestHandedIn: R2, lists that are handed in stay as they are, their spare room too, and share no memory with an answer.
func TestHandedIn(t *testing.T) {
	d := made(t, kept)
	before := d.told()
	path := append(steps("next 1, 0, next 1"), steps("spoilt 7, spoilt 8")...)
	given := slices.Clone(path)
	if _, ok := unfold.Follow(d.Graph, d.of("A"), path[:3]...); !ok {
		t.Error("no path")
	}
	if _, ok := unfold.Follow(d.Graph, d.of("E"), path[:3]...); ok {
		t.Error("a path")
	}
	if !slices.Equal(path, given) {
		t.Error(path)
	}
	nodes := []int{d.of("D"), -1, d.of("A"), 5000, d.of("A"), 77, 78, 79}
	same := slices.Clone(nodes)
	l := unfold.Reach(d.Graph, nodes[:5]...)
	if !slices.Equal(nodes, same) {
		t.Error(nodes)
	}
	fill(l, 99)
	if !slices.Equal(nodes, same) {
		t.Error(nodes)
	}
	for _, one := range [][]int{{d.of("int")}, {1, 2, 0}} { // what is answered is what was handed in, or so many
		given := slices.Clone(one)
		fill(unfold.Reach(d.Graph, one...), 99)
		if !slices.Equal(one, given) {
			t.Error(one)
		}
	}
	after := made(t, kept)
	after.of("int")
	if !slices.Equal(d.told(), after.told()) || slices.Equal(d.told(), before) {
		t.Error("changed")
	}
}

// TestAdded: R4, what is added later is seen, and of each graph its own: nothing is kept from call to call.
func TestAdded(t *testing.T) {
	d := made(t, kept)
	n := d.Len()
	if unfold.Label(d.Graph, n) != "" || len(unfold.Reach(d.Graph, n)) != 0 {
		t.Error("a node too many")
	}
	c := drawn{d.Copy(), t}
	if x, y := d.of("*A"), c.of("{x A;}"); x != n || y != n {
		t.Fatal(x, y, n)
	}
	if s := unfold.Text(d.Graph, n, 2); s != "*(record n next)" {
		t.Error(s)
	}
	if s := unfold.Text(c.Graph, n, 2); s != "record x(record n next)" {
		t.Error(s)
	}
	if l := unfold.Reach(c.Graph, n); !slices.Equal(l, []int{0, 1, 2, n}) {
		t.Error(l)
	}
}
