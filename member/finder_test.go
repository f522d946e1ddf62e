package member_test

import (
	"reflect"
	"testing"

	"coil/member"
)

// TestFinder: a finder answers the same as Lookup, however often, and what is written into an answer changes nothing.
func TestFinder(t *testing.T) {
	c := made(t, kept)
	f := member.NewFinder(c)
	paths := 0
	for range 3 {
		for class := -1; class <= c.Len(); class++ {
			for _, name := range []string{"x", "m", "a", "k", "l", "s", "w", "i", "z", "g", "no", ""} {
				got, why := f.Lookup(class, name)
				want, e := member.Lookup(c, class, name)
				if !reflect.DeepEqual(got, want) || why != e {
					t.Errorf("%d %s: %+v, %v, not %+v, %v", class, name, got, why, want, e)
				}
				paths += len(got.Path)
				spoil(got.Path, "spoilt")
			}
		}
	}
	if paths < 50 {
		t.Error("hardly met:", paths)
	}
}
