package machine_test

import (
	"testing"

	"coil/api"
	"coil/machine"
)

const fourth = "type I = interface {m() int;}; type A = {x int;}; method A.m() int { return self.x; } main int { let i I = A{x: 7}; return i.m(); }"

// TestRuns: P14.1 and P14.2, the chapter's runs.
func TestRuns(t *testing.T) {
	c := made(t, fourth)
	if o, n := machine.Run(c, 9, 1); !same(o, api.Outcome{Value: "7", Steps: 4}) || n != (machine.Counts{Builds: 1, Lookups: 1, Calls: 1, Pairs: 1}) {
		t.Error(o, n)
	}
	if o, n := machine.Run(c, 2, 1); !same(o, api.Outcome{Why: api.ErrFuel, Steps: 2}) || n != (machine.Counts{Builds: 1, Lookups: 1, Calls: 1, Pairs: 1}) {
		t.Error(o, n)
	}
	l, n := machine.Runs(c, 1, 9, 9, 9)
	if len(l) != 3 || n != (machine.Counts{Builds: 1, Lookups: 1, Calls: 3, Pairs: 1}) {
		t.Error(l, n)
	}
	for _, o := range l {
		if !same(o, api.Outcome{Value: "7", Steps: 4}) {
			t.Error(o)
		}
	}
	o, n := machine.Run(nil, 9, 1)
	alone(t, "nil", o, n, api.ErrArg)
	o, n = machine.Run(c, 9, 17)
	alone(t, "tabs 17", o, n, api.ErrArg)
	o, n = machine.Run(c, -1, 1)
	alone(t, "fuel -1", o, n, api.ErrRange)
}

// TestExamples: P14.1 and P14.2, the chapter's examples.
func TestExamples(t *testing.T) {
	c := made(t, "type A = {x int;}; method A.m() int { print self; return self.x; } func f(a A) int { return a.m(); } main int { print f(A{x: 1}); return A{x: 2}.m(); }")
	if o, n := machine.Run(c, 99, 1); !same(o, api.Outcome{Out: []string{"{x: 1}", "1", "{x: 2}"}, Value: "2", Steps: 10}) || n != (machine.Counts{}) {
		t.Error(o, n)
	}
	if l, n := machine.Runs(c, 1); len(l) != 0 || n != (machine.Counts{}) {
		t.Error(l, n)
	}
	c = made(t, fourth)
	for fuel, calls := range []int{0, 0, 1, 1, 1} {
		if o, n := machine.Run(c, fuel, 1); n.Calls != calls || n.Builds != calls || (o.Why == api.ErrFuel) != (fuel < 4) || o.Steps != fuel {
			t.Error(fuel, o, n)
		}
	}
}
