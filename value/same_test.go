package value_test

import (
	"testing"

	"coil/api"
	"coil/value"
)

// same fails, unless Same says that of both, either way round.
func same(t *testing.T, a, b api.Value, want bool) {
	t.Helper()
	if value.Same(a, b) != want || value.Same(b, a) != want {
		t.Errorf("%+v, %+v: not %v", a, b, want)
	}
}

// TestSame: P10.4, values that differ in one field alone.
func TestSame(t *testing.T) {
	part := api.Value{Kind: 9, Class: -9, N: 9, S: "\x00"}
	v := api.Value{Kind: 1, Class: 2, N: 3, S: "four", Parts: []api.Value{part, {}}}
	same(t, v, v, true)
	same(t, api.Value{}, api.Value{}, true)
	others := []api.Value{v, v, v, v, v, v, v, v, v, v}
	others[0].Kind = 2
	others[1].Class = 3
	others[2].N = -3
	others[3].S = "fouR"
	others[4].S = ""
	others[5].Parts = nil
	others[6].Parts = []api.Value{part}
	others[7].Parts = []api.Value{part, {}, {}}
	others[8].Parts = []api.Value{{}, part}
	others[9].Parts = []api.Value{part, {N: 1}}
	for i, other := range others {
		same(t, other, other, true)
		same(t, other, v, false)
		for j := range i {
			same(t, other, others[j], false)
		}
		// and at any depth
		a, b := v, other
		for range 20 {
			same(t, a, b, false)
			same(t, clone(a), a, true)
			a = api.Value{Kind: 4, Parts: []api.Value{part, a, {}}}
			b = api.Value{Kind: 4, Parts: []api.Value{part, b, {}}}
		}
	}
}

// clone has lists of its own.
func clone(v api.Value) api.Value {
	parts := v.Parts
	v.Parts = nil
	for _, p := range parts {
		v.Parts = append(v.Parts, clone(p))
	}
	return v
}

// TestSameEmpty: P10.4, nil and empty lists are the same, at any depth, with spare room too.
func TestSameEmpty(t *testing.T) {
	none, empty, roomy := api.Value{Kind: 5}, api.Value{Kind: 5, Parts: []api.Value{}}, api.Value{Kind: 5, Parts: make([]api.Value, 0, 3)}
	l := []api.Value{none, empty, roomy}
	for range 5 {
		for _, a := range l {
			for _, b := range l {
				same(t, a, b, true)
			}
		}
		first := l[0]
		for i, v := range l {
			l[i] = api.Value{Kind: 4, Parts: []api.Value{v, first}}
		}
	}
	same(t, empty, api.Value{Kind: 5, Parts: []api.Value{{}}}, false)
}

// TestSameMemory: P10.4, lists that lie in one another's memory are told apart by what they hold.
func TestSameMemory(t *testing.T) {
	room := []api.Value{{N: 1}, {N: 1}, {N: 1}, {N: 2}}
	of := func(from, to int) api.Value { return api.Value{Parts: room[from:to]} }
	same(t, of(0, 2), of(1, 3), true)
	same(t, of(0, 2), of(2, 4), false)
	same(t, of(0, 2), of(0, 3), false)
	same(t, of(0, 1), of(0, 2), false)
	same(t, api.Value{Parts: []api.Value{of(0, 1), of(0, 2)}}, api.Value{Parts: []api.Value{of(1, 2), of(2, 4)}}, false)
	same(t, api.Value{Parts: []api.Value{of(0, 1), of(0, 2)}}, api.Value{Parts: []api.Value{of(1, 2), of(1, 3)}}, true)
}
