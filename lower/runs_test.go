package lower_test

import (
	"testing"

	"coil/api"
	"coil/lower"
)

const fourth = "type I = interface {m() int;}; type A = {x int;}; method A.m() int { return self.x; } main int { let i I = A{x: 7}; return i.m(); }"

// TestRuns: P13.1 to P13.3, the chapter's runs.
func TestRuns(t *testing.T) {
	c := made(t, fourth)
	iface, ok := c.Checked().Classes().Root("I")
	if l := c.Sites(); !ok || len(l) != 1 || l[0] != (lower.Site{Iface: iface, Method: 0}) {
		t.Error(l, iface)
	}
	slots(t, c, ".", 1)
	slots(t, c, "A.m", 0)
	bounded(t, fourth, c, 2)
	const second = "func f(a int, b int) int { let c = a; if true { let d = b; } return c; } main int { return f(1, 2); }"
	c = made(t, second)
	sites(t, second, c)
	slots(t, c, ".f", 4)
	slots(t, c, ".", 0)
	bounded(t, second, c, 2)
	if c, why := lower.Program(nil); c != nil || why != api.ErrArg {
		t.Error(c, why)
	}
}

// TestExamples: P13.2 and P13.3, the chapter's examples.
func TestExamples(t *testing.T) {
	stmtSites(t, "d.m();", "I 0")
	stmtSites(t, "a.m();")
	c := made(t, function(""))
	slots(t, c, "A.z", -1)
	slots(t, c, "B.m", -1)
}

// TestChecked: P13.1, the program is the one that was handed in, not another one that is like it.
func TestChecked(t *testing.T) {
	p := parsed(t, fourth)
	first, second := accepted(t, p), accepted(t, p)
	a, b, again := lowered(t, first), lowered(t, second), lowered(t, first)
	if a == again || a.Checked() != first || b.Checked() != second || again.Checked() != first || first == second {
		t.Error("not the program that was handed in")
	}
}
