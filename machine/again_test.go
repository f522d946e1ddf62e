package machine_test

import (
	"testing"

	"coil/api"
	"coil/lower"
	"coil/machine"
)

// TestAgain: what Again's function comes to, call by call, is what Runs comes to of as many fuels.
func TestAgain(t *testing.T) {
	m := newMaker(15)
	for i := range 60 {
		src := m.round()
		if i%2 == 0 {
			src = m.program()
		}
		c := made(t, src)
		tabs := 1 + m.Intn(api.MaxTabs)
		again, why := machine.Again(c, tabs)
		other, _ := machine.Again(c, tabs)
		if why != api.OK {
			t.Fatal(src, why)
		}
		var fuels []int
		for range 8 {
			fuels = append(fuels, one(m, []int{m.Intn(50), m.Intn(500), 3000, -1, api.MaxFuel + 1}))
			o, n := again(fuels[len(fuels)-1])
			l, want := machine.Runs(c, tabs, fuels...)
			if !same(o, l[len(l)-1]) || n != want {
				t.Fatalf("%s\nfuels %v, tabs %d: %+v %+v, not %+v %+v", src, fuels, tabs, o, n, l[len(l)-1], want)
			}
		}
		o, n := other(3000) // it has a cache and counts of its own
		if want, counts := machine.Run(c, 3000, tabs); !same(o, want) || n != counts {
			t.Error(src, o, n)
		}
	}
}

// TestAgainRefused: what can't be run is refused at once, as Runs refuses it.
func TestAgainRefused(t *testing.T) {
	c := made(t, fourth)
	for _, x := range []struct {
		code *lower.Code
		tabs int
	}{{nil, 1}, {nil, 0}, {c, 0}, {c, -1}, {c, api.MaxTabs + 1}} {
		if again, why := machine.Again(x.code, x.tabs); again != nil || why != api.ErrArg {
			t.Error(x, why)
		}
	}
}
