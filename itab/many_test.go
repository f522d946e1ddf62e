package itab_test

import (
	"slices"
	"testing"

	"coil/api"
	"coil/itab"
	"coil/subtype"
)

// wide is a relation over an interface I of n methods, and a record R that is below it: its methods are promoted from a
// record at the end of that many embedded ones.
func wide(t *testing.T, n, deep int) *subtype.Relation {
	t.Helper()
	iface := api.Type{Kind: api.TIface}
	var methods []api.Code
	for i := range n {
		name := key("m", n-i)
		iface.Names = append(iface.Names, name)
		iface.Parts = append(iface.Parts, function(named("I")))
		methods = append(methods, api.Code{Owner: "O", Name: name, Result: named("I")})
	}
	defs := []api.Def{def("I", iface), def("O", api.Type{Kind: api.TRec})}
	next := "O"
	for i := range deep {
		defs = append(defs, def(key("R", i), api.Type{Kind: api.TRec, Names: []string{key("e", i)}, Embeds: []bool{true}, Parts: []api.Type{named(next)}}))
		next = key("R", i)
	}
	return built(t, nil, append(defs, def("R", named(next))), methods...)
}

// TestWide: P12.1 of as many methods as there can be, at a depth and without one.
func TestWide(t *testing.T) {
	for _, x := range [][2]int{{api.MaxTypes/2 - 1, 0}, {400, 222}, {1, api.MaxTypes - 4}} {
		n, deep := x[0], x[1]
		r := wide(t, n, deep)
		got, why := itab.Build(r, at(t, r, "R"), at(t, r, "I"))
		if why != api.OK || len(got.Rows) != n {
			t.Fatal(n, deep, why, len(got.Rows))
		}
		for i, m := range got.Rows {
			if m.Name != key("m", i+1) || m.Owner != "O" || len(m.Path) != deep || deep > 0 && m.Path[deep-1] != key("e", 0) {
				t.Fatal(n, deep, i, m)
			}
		}
		c := opened(t, r, 1)
		row(t, c, "I < I", n-1, key("m", n)+": iface")
		row(t, c, "I < I", n, "4")
		keeps(t, c, 1, n, "I < I")
	}
}

// TestTurns: P12.2 and P12.5, pairs that are asked for in turn: as many as are kept are built once each, one more is built
// anew each time.
func TestTurns(t *testing.T) {
	const rounds = 200
	var defs []api.Def
	var methods []api.Code
	for i := range api.MaxTabs + 1 {
		defs = append(defs, def(key("A", i), api.Type{Kind: api.TRec}))
		methods = append(methods, api.Code{Owner: key("A", i), Name: "m", Result: named("I")})
	}
	defs = append(defs, def("I", api.Type{Kind: api.TIface, Names: []string{"m"}, Parts: []api.Type{function(named("I"))}}))
	r := built(t, nil, defs, methods...)
	iface := at(t, r, "I")
	for most := 1; most <= api.MaxTabs; most++ {
		for _, pairs := range []int{most, most + 1} {
			c := opened(t, r, most)
			var want [][2]int
			for range rounds {
				want = nil
				for i := range pairs {
					class, _ := r.Root(key("A", i))
					if m, why := c.Row(class, iface, 0); m.Owner != key("A", i) || why != api.OK {
						t.Fatal(m, why)
					}
					want = append(want, [2]int{class, iface})
				}
			}
			builds := pairs
			if pairs > most {
				builds = pairs * rounds
			}
			slices.Reverse(want)
			if c.Builds() != builds || c.Lookups() != builds || !slices.Equal(c.Held(), want[:most]) {
				t.Error(most, pairs, c.Builds(), c.Lookups(), c.Held())
			}
		}
	}
}
