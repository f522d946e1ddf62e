package unfold_test

import (
	"math"
	"slices"
	"testing"

	"coil/api"
	"coil/unfold"
)

const runs = "type A = {n int; next *A;}; type B = {next *A; n int;}; type C = {n int; next *{n int; next *text;};}; "

// TestFollow: P5.3, the chapter's runs, and steps that are right or wrong in their N, their Name, or both.
func TestFollow(t *testing.T) {
	d := made(t, runs+"type E = interface {z() int; a(text) E;}; type F = fn(A, E, F) bool; type G = {b F; embed a *G;}; method G.m() int {}")
	for _, c := range []struct{ from, path, to string }{
		{"A", "", "A"},
		{"A", "next 1, 0", "A"},
		{"A", "next 1, 0, next 1, 0, next 1, 0", "A"},
		{"B", "next 1, 0", "A"},
		{"A", "n 1", ""},
		{"A", "next 0", ""},
		{"A", "n 2", ""},
		{"A", "n -1", ""},
		{"A", "0", ""},
		{"A", "1", ""},
		{"A", "m 0", ""},
		{"A", "N 0", ""},
		{"A", "next 1, next 0", ""},
		{"A", "next 1, n 0", ""},
		{"A", "next 1, 1", ""},
		{"A", "next 1, -1", ""},
		{"A", "n 0, 0", ""},
		{"A", "next 1, 0, next 0, 0", ""},
		{"A", "next 1, 0, n 1", ""},
		{"E", "a 0, 1", "E"},
		{"E", "a 0, 1, a 0, 1, a 0", "E.a"},
		{"E", "a 1", ""},
		{"E", "z 1, 0, 0", ""},
		{"E", "z 0", ""},
		{"E", "z 1, 1", ""},
		{"F", "0", "A"},
		{"F", "1", "E"},
		{"F", "2", "F"},
		{"F", "2, 2, 2, 1", "E"},
		{"F", "4", ""},
		{"F", "-1", ""},
		{"F", "a 0", ""},
		{"G", "a 0, 0, b 1", "F"},
		{"G", "a 0, 0, a 0, 0", "G"},
		{"G", "b 0", ""},
		{"G", "a 1", ""},
		{"G", "+a 0", ""},
		{"G", "m 2", ""},
	} {
		want, ok := 0, c.to != ""
		switch c.to {
		case "":
		case "E.a":
			want = unfold.Children(d.Graph, d.of("E"))[0]
		default:
			want = d.of(c.to)
		}
		if n, found := unfold.Follow(d.Graph, d.of(c.from), steps(c.path)...); n != want || found != ok {
			t.Errorf("%s by %q: %d, %v, not %d, %v", c.from, c.path, n, found, want, ok)
		}
	}
	for _, n := range []int{math.MaxInt, math.MinInt} {
		if to, ok := unfold.Follow(d.Graph, d.of("F"), api.Step{N: n}); to != 0 || ok {
			t.Error(to, ok)
		}
	}
}

// TestFollowEveryNode: P5.3, from each node by the empty path, and by each step to a child.
func TestFollowEveryNode(t *testing.T) {
	d := made(t, runs)
	for n := range d.Len() {
		if to, ok := unfold.Follow(d.Graph, n); to != n || !ok {
			t.Error(n, to, ok)
		}
		names := slices.Sorted(slices.Values(d.Names(n)))
		for i, child := range unfold.Children(d.Graph, n) {
			s := api.Step{N: i}
			if len(names) > 0 {
				s.Name = names[i]
			}
			if to, ok := unfold.Follow(d.Graph, n, s); to != child || !ok {
				t.Error(n, s, to, ok)
			}
		}
	}
}

// TestFollowBoth: P5.7, following a path and then another is following both.
func TestFollowBoth(t *testing.T) {
	d := made(t, runs+"type F = fn(F, A) C;")
	paths := [][]api.Step{nil, steps("next 1"), steps("next 1, 0"), steps("n 0"), steps("n 1"), steps("0"), steps("1"), steps("2, next 1"), steps("0, 0, 1, next 1, 0"), steps("-1")}
	for n := -1; n <= d.Len(); n++ {
		for _, p := range paths {
			for _, q := range paths {
				mid, ok := unfold.Follow(d.Graph, n, p...)
				want, wantOK := unfold.Follow(d.Graph, mid, q...)
				if !ok {
					want, wantOK = 0, false
				}
				if got, gotOK := unfold.Follow(d.Graph, n, slices.Concat(p, q)...); got != want || gotOK != wantOK {
					t.Errorf("%d by %q and %q: %d, %v, not %d, %v", n, shown(p), shown(q), got, gotOK, want, wantOK)
				}
			}
		}
	}
}

// TestFollowFar: P5.3, a long path through a wide record takes no longer than its steps.
func TestFollowFar(t *testing.T) {
	names := wide(20000)
	d := built(t, def("A", record(names, slices.Repeat([]api.Type{named("A")}, len(names))...)))
	path := slices.Repeat([]api.Step{{Name: names[7], N: 7}}, 100000)
	if n, ok := unfold.Follow(d.Graph, 0, path...); n != 0 || !ok {
		t.Error(n, ok)
	}
	if n, ok := unfold.Follow(d.Graph, 0, append(path, api.Step{Name: names[7], N: 8})...); n != 0 || ok {
		t.Error(n, ok)
	}
}

// TestReach: P5.5, the chapter's run, several nodes, one twice, and numbers that are none.
func TestReach(t *testing.T) {
	d := made(t, "type A = {n int; next *A;}; type B = fn(A, B) text; type P = *P; type Q = interface {m() P;}; type R = {}; method R.m() P {}")
	for _, c := range []struct{ nodes, want []int }{
		{nil, nil},
		{[]int{}, nil},
		{[]int{0}, []int{0, 1, 2}},
		{[]int{1}, []int{1}},
		{[]int{2}, []int{0, 1, 2}},
		{[]int{2, 1, 0, 2, 2, 0}, []int{0, 1, 2}},
		{[]int{3}, []int{0, 1, 2, 3, 4}},
		{[]int{4, 3}, []int{0, 1, 2, 3, 4}},
		{[]int{5}, []int{5}},
		{[]int{6}, []int{5, 6, 7}},
		{[]int{7}, []int{5, 7}},
		{[]int{8}, []int{8}}, // methods are no children
		{[]int{9}, []int{5, 9}},
		{[]int{8, 5, 1, 4}, []int{1, 4, 5, 8}},
		{[]int{-1, 8, -5, 10, 999, 5, 8, math.MaxInt, math.MinInt, 4}, []int{4, 5, 8}},
		{[]int{9, 8, 7, 6, 5, 4, 3, 2, 1, 0}, []int{0, 1, 2, 3, 4, 5, 6, 7, 8, 9}},
		{[]int{10}, nil},
	} {
		if l := unfold.Reach(d.Graph, c.nodes...); !slices.Equal(l, c.want) {
			t.Errorf("Reach(%v): %v, not %v", c.nodes, l, c.want)
		}
	}
	if l := unfold.Reach(made(t, runs).Graph, 0); !slices.Equal(l, []int{0, 1, 2}) {
		t.Error(l)
	}
}

// TestReachMany: P5.5, a node many times, and a graph of MaxTypes nodes in which many paths lead to one.
func TestReachMany(t *testing.T) {
	d, a, b := ladders(t, "int", "int")
	half := api.MaxTypes / 2
	if l := unfold.Reach(d.Graph, slices.Repeat([]int{b, a, -1, 5000}, 100000)...); len(l) != api.MaxTypes || !slices.IsSorted(l) {
		t.Error(len(l))
	}
	if l := unfold.Reach(d.Graph, b); len(l) != half || l[0] != b || l[half-1] != api.MaxTypes-1 {
		t.Error(len(l))
	}
	if l := unfold.Reach(d.Graph, a+half-2); !slices.Equal(l, []int{a + half - 2, a + half - 1}) {
		t.Error(l)
	}
}
