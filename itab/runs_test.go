package itab_test

import (
	"testing"

	"coil/api"
	"coil/itab"
)

// TestRuns: the chapter's runs.
func TestRuns(t *testing.T) {
	r := made(t, runs)
	builds(t, r, "B < J", "a: method of B; m: method of A by b")
	builds(t, r, "J < I", "m: iface")
	refuses(t, r, api.ErrType, "A < J", "I < J")
	refuses(t, r, api.ErrArg, "A < B")
	for _, most := range []int{0, 17} {
		if c, why := itab.New(r, most); c != nil || why != api.ErrArg {
			t.Error(most, c, why)
		}
	}
	c := opened(t, r, 2)
	gets(t, c, "A < I", "B < I", "A < I", "B < J")
	keeps(t, c, 3, 4, "B < J", "A < I")
	row(t, c, "B < J", 1, "m: method of A by b")
	row(t, c, "B < J", 2, "4")
}

// TestExamples: the chapter's examples.
func TestExamples(t *testing.T) {
	r := made(t, runs, "interface {}")
	builds(t, r, "A < interface {}", "")
	c := opened(t, r, 2)
	gets(t, c, "A < J", "A < B")
	keeps(t, c, 0, 0)
	gets(t, c, "A < I", "A < interface {}")
	keeps(t, c, 2, 1, "A < interface {}", "A < I")
	if why := c.Reset(r); why != api.OK {
		t.Error(why)
	}
	keeps(t, c, 0, 0)
}
