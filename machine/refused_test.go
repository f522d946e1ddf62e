package machine_test

import (
	"math"
	"testing"

	"coil/api"
	"coil/machine"
)

// noTabs and noFuels are refused, tabs and fuels are not.
var (
	noTabs  = []int{0, -1, api.MaxTabs + 1, math.MaxInt, math.MinInt, 1<<32 + 1}
	noFuels = []int{-1, api.MaxFuel + 1, math.MaxInt, math.MinInt, 1<<32 + 1}
)

// TestRefused: P14.1, a run without code, with tables or fuel that can't be; what is ErrArg's goes ahead.
func TestRefused(t *testing.T) {
	c := made(t, fourth)
	for _, fuel := range append([]int{0, 9, api.MaxFuel}, noFuels...) {
		for tabs := -1; tabs <= api.MaxTabs+1; tabs++ {
			o, n := machine.Run(nil, fuel, tabs)
			alone(t, [2]int{fuel, tabs}, o, n, api.ErrArg)
		}
		for _, tabs := range noTabs {
			o, n := machine.Run(c, fuel, tabs)
			alone(t, [2]int{fuel, tabs}, o, n, api.ErrArg)
		}
	}
	for _, fuel := range noFuels {
		for tabs := 1; tabs <= api.MaxTabs; tabs++ {
			o, n := machine.Run(c, fuel, tabs)
			alone(t, [2]int{fuel, tabs}, o, n, api.ErrRange)
		}
	}
}

// TestEdges: P14.1, the least and the greatest fuels and numbers of tables.
func TestEdges(t *testing.T) {
	c := made(t, fourth)
	endless := made(t, mainOf("let i I = A{x: 1}; while true { i.m(); }"))
	for _, tabs := range []int{1, api.MaxTabs} {
		if o, n := machine.Run(c, 0, tabs); !same(o, api.Outcome{Why: api.ErrFuel}) || n != (machine.Counts{}) {
			t.Error(tabs, o, n)
		}
		if o, n := machine.Run(c, api.MaxFuel, tabs); !same(o, api.Outcome{Value: "7", Steps: 4}) || n != (machine.Counts{Builds: 1, Lookups: 1, Calls: 1, Pairs: 1}) {
			t.Error(tabs, o, n)
		}
		o, n := machine.Run(endless, api.MaxFuel, tabs) // a let, and of each round: while, the statement, its call, that one's return
		if !same(o, api.Outcome{Why: api.ErrFuel, Steps: api.MaxFuel}) || n != (machine.Counts{Builds: 1, Lookups: 1, Calls: api.MaxFuel / 4, Pairs: 1}) {
			t.Error(tabs, o, n)
		}
	}
}

// TestRunsRefused: P14.2, each refused run is refused for itself, and runs nothing.
func TestRunsRefused(t *testing.T) {
	c := made(t, "type I = interface {m() int;}; type A = {x int;}; method A.m() int { print self; return self.x; } main int { let i I = A{x: 7}; print 1; return i.m(); }")
	fuels := []int{9, -1, 9, api.MaxFuel + 1, 3, 0, math.MinInt, api.MaxFuel}
	l, n := machine.Runs(c, 2, fuels...)
	if len(l) != len(fuels) || n != (machine.Counts{Builds: 1, Lookups: 1, Calls: 4, Pairs: 1}) {
		t.Fatal(l, n)
	}
	for i, fuel := range fuels {
		if o, _ := machine.Run(c, fuel, 2); !same(l[i], o) {
			t.Error(fuel, l[i], o)
		}
	}
	for i, why := range []api.Errno{api.OK, api.ErrRange, api.OK, api.ErrRange, api.ErrFuel, api.ErrFuel, api.ErrRange, api.OK} {
		if l[i].Why != why {
			t.Error(fuels[i], l[i])
		}
	}
	l, n = machine.Runs(c, 1, noFuels...)
	if len(l) != len(noFuels) {
		t.Error(l)
	}
	for _, o := range l {
		alone(t, noFuels, o, n, api.ErrRange)
	}
	for _, tabs := range append(noTabs, 1) {
		code := c
		if tabs == 1 {
			code = nil
		}
		l, n := machine.Runs(code, tabs, fuels...)
		if len(l) != len(fuels) {
			t.Error(tabs, l)
		}
		for _, o := range l {
			alone(t, tabs, o, n, api.ErrArg)
		}
		if l, n := machine.Runs(code, tabs); len(l) != 0 || n != (machine.Counts{}) {
			t.Error(tabs, l, n)
		}
	}
}
