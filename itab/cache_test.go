package itab_test

import (
	"math"
	"testing"

	"coil/api"
	"coil/itab"
)

// TestNew: P12.2, how many tables a cache may keep.
func TestNew(t *testing.T) {
	r := made(t, runs)
	for _, most := range []int{0, -1, api.MaxTabs + 1, math.MaxInt, math.MinInt, 1<<32 + 1} {
		if c, why := itab.New(r, most); c != nil || why != api.ErrArg {
			t.Error(most, c, why)
		}
	}
	for most := -1; most <= api.MaxTabs+1; most++ {
		if c, why := itab.New(nil, most); c != nil || why != api.ErrArg {
			t.Error(most, c, why)
		}
	}
	for most := 1; most <= api.MaxTabs; most++ {
		keeps(t, opened(t, r, most), 0, 0)
	}
}

// TestKept: P12.2, a table that is kept is not built again.
func TestKept(t *testing.T) {
	c := opened(t, made(t, runs), 3)
	gets(t, c, "B < J")
	keeps(t, c, 1, 2, "B < J")
	gets(t, c, "B < J", "B < J")
	keeps(t, c, 1, 2, "B < J")
	gets(t, c, "J < I")
	keeps(t, c, 2, 3, "J < I", "B < J")
	gets(t, c, "B < J")
	keeps(t, c, 2, 3, "B < J", "J < I")
	gets(t, c, "B < I", "J < I")
	keeps(t, c, 3, 4, "J < I", "B < I", "B < J")
}

// TestOldest: P12.2, the table that was asked for longest ago goes first, also if it was built last.
func TestOldest(t *testing.T) {
	c := opened(t, made(t, runs), 3)
	gets(t, c, "A < I", "B < I", "J < I")
	keeps(t, c, 3, 3, "J < I", "B < I", "A < I")
	gets(t, c, "A < I", "B < I") // now the one that was built last was asked for longest ago
	gets(t, c, "B < J")
	keeps(t, c, 4, 5, "B < J", "B < I", "A < I")
	gets(t, c, "J < I") // built anew
	keeps(t, c, 5, 6, "J < I", "B < J", "B < I")
	gets(t, c, "B < I", "A < I")
	keeps(t, c, 6, 7, "A < I", "B < I", "J < I")
}

// TestOne: P12.2, a cache of one table.
func TestOne(t *testing.T) {
	c := opened(t, made(t, runs), 1)
	gets(t, c, "A < I", "A < I")
	keeps(t, c, 1, 1, "A < I")
	gets(t, c, "B < J")
	keeps(t, c, 2, 3, "B < J")
	gets(t, c, "A < J")
	keeps(t, c, 2, 3, "B < J")
	gets(t, c, "A < I", "B < J", "A < I")
	keeps(t, c, 5, 7, "A < I")
	row(t, c, "B < J", 9, "4")
	keeps(t, c, 6, 9, "B < J")
}

// TestRefused: P12.2 and P12.3, what is refused is neither kept, built nor counted, and changes no order.
func TestRefused(t *testing.T) {
	r := made(t, runs)
	for most := 1; most <= 3; most++ {
		c := opened(t, r, most)
		gets(t, c, "B < I", "B < J", "A < I")
		held := []string{"A < I", "B < J", "B < I"}[:most]
		n := r.Len()
		for range 3 {
			gets(t, c, "A < J", "I < J", "A < B", "B < A", "int < int", "int < I")
			for _, p := range [][2]int{{-1, 0}, {0, -1}, {n, n}, {at(t, r, "B"), n}, {n, at(t, r, "J")}, {math.MinInt, math.MaxInt}} {
				if got, why := c.Get(p[0], p[1]); !isZero(got) || why != api.ErrArg {
					t.Error(p, got, why)
				}
				for _, method := range []int{-1, 0, 1, 2} {
					if m, why := c.Row(p[0], p[1], method); !isNone(m) || why != api.ErrArg {
						t.Error(p, m, why)
					}
				}
			}
			for _, method := range []int{-1, 0, 1, 2} { // a refused pair ahead of a row that is none
				row(t, c, "A < J", method, "40")
				row(t, c, "A < B", method, "1")
			}
			keeps(t, c, 3, 4, held...)
		}
	}
}

// TestRow: P12.2, rows by their numbers, of tables that are kept and that are not.
func TestRow(t *testing.T) {
	c := opened(t, made(t, runs, "interface {}"), 2)
	row(t, c, "B < J", 0, "a: method of B")
	keeps(t, c, 1, 2, "B < J")
	row(t, c, "B < J", 1, "m: method of A by b")
	row(t, c, "J < I", 0, "m: iface")
	keeps(t, c, 2, 3, "J < I", "B < J")
	row(t, c, "B < J", 0, "a: method of B") // asked for again
	keeps(t, c, 2, 3, "B < J", "J < I")
	row(t, c, "B < I", 0, "m: method of A by b")
	keeps(t, c, 3, 4, "B < I", "B < J")
	gets(t, c, "B < J")
	row(t, c, "A < interface {}", 0, "4")
	keeps(t, c, 4, 4, "A < interface {}", "B < J")
}

// TestNoRow: P12.2, of a row that is none the table is kept all the same, and was asked for.
func TestNoRow(t *testing.T) {
	for _, method := range []int{-1, 2, 3, math.MaxInt, math.MinInt, 1 << 32, -1 << 32} {
		c := opened(t, made(t, runs), 2)
		row(t, c, "B < J", method, "4")
		keeps(t, c, 1, 2, "B < J")
		row(t, c, "J < J", method, "4")
		keeps(t, c, 2, 4, "J < J", "B < J")
		row(t, c, "B < J", method, "4")
		keeps(t, c, 2, 4, "B < J", "J < J")
		gets(t, c, "A < I")
		keeps(t, c, 3, 5, "A < I", "B < J")
		row(t, c, "J < J", method, "4")
		keeps(t, c, 4, 7, "J < J", "A < I")
	}
}

// TestReset: P12.3, a cache is emptied, and then has tables of another relation, or of the same.
func TestReset(t *testing.T) {
	r := made(t, runs)
	other := made(t, "type A = interface {z() int;}; type B = {}; method B.z() int {} type C = {embed b B;}; type T = interface {};")
	c := opened(t, r, 2)
	gets(t, c, "A < I", "B < J", "B < I")
	if why := c.Reset(nil); why != api.ErrArg {
		t.Error(why)
	}
	keeps(t, c, 3, 4, "B < I", "B < J")
	gets(t, c, "B < J") // still of the same relation, and kept
	keeps(t, c, 3, 4, "B < J", "B < I")
	for _, to := range []string{"other", "same"} {
		if why := c.Reset(other); why != api.OK {
			t.Error(to, why)
		}
		keeps(t, c, 0, 0)
		if c.Classes() != other.Classes() {
			t.Error("other classes")
		}
		row(t, c, "C < A", 0, "z: method of B by b")
		gets(t, c, "B < A", "B < T", "C < B", "T < A")
		keeps(t, c, 3, 2, "B < T", "B < A") // as many as it kept at first
		if c.Reset(nil) != api.ErrArg || c.Classes() != other.Classes() {
			t.Error("changed")
		}
	}
	if why := c.Reset(r); why != api.OK {
		t.Error(why)
	}
	keeps(t, c, 0, 0)
	gets(t, c, "B < J")
	keeps(t, c, 1, 2, "B < J")
}

// TestEmptied: P12.3, also a cache that keeps nothing, and one of a relation without classes, may be emptied.
func TestEmptied(t *testing.T) {
	none := made(t, "")
	c := opened(t, none, 1)
	if _, why := c.Get(0, 0); why != api.ErrArg || c.Reset(nil) != api.ErrArg || c.Reset(none) != api.OK || c.Reset(made(t, runs)) != api.OK {
		t.Error(why)
	}
	keeps(t, c, 0, 0)
	gets(t, c, "A < I")
	keeps(t, c, 1, 1, "A < I")
}

// TestEmbedded: a cache has the methods of its relation, but for those of its own.
func TestEmbedded(t *testing.T) {
	r := made(t, runs)
	c := opened(t, r, 4)
	b, j := at(t, r, "B"), at(t, r, "J")
	if ok, why := c.Below(b, j); !ok || why != api.OK || c.Relation != r || c.Label(b) != r.Label(b) || c.Text() != r.Text() {
		t.Error(ok, why)
	}
	if c.Len() != 0 || r.Len() == 0 {
		t.Error(c.Len(), r.Len())
	}
}

// TestApart: two caches of one relation know nothing of one another.
func TestApart(t *testing.T) {
	r := made(t, runs)
	a, b := opened(t, r, 1), opened(t, r, 2)
	gets(t, a, "A < I", "B < J")
	keeps(t, b, 0, 0)
	gets(t, b, "B < I", "A < I")
	keeps(t, a, 2, 3, "B < J")
	a.Reset(r)
	keeps(t, b, 2, 2, "A < I", "B < I")
}
