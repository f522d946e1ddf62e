package lower_test

import (
	"slices"
	"testing"

	"coil/api"
	"coil/check"
	"coil/graph"
	"coil/lower"
	"coil/member"
)

// reference tells sites and variables by the chapter's words, from the trees that were checked.
type reference struct {
	*check.Checked
	program api.Program
	graph   *graph.Graph
}

// sites are those of all calls whose member is an interface's, in the order in which Types tells them: the first part of an
// expression is told right behind it.
func (r reference) sites() []lower.Site {
	var l []lower.Site
	types, at := r.Types(), 0
	for _, c := range codes(r.program) {
		each(c.Body, func(api.Stmt) {}, func(x api.Expr) {
			at++
			if x.Kind != api.XCall {
				return
			}
			class := types[at].Class
			if m, _ := member.Lookup(r.Classes(), class, x.S); m.Kind == api.MIface {
				l = append(l, r.site(class, m))
			}
		})
	}
	return l
}

// site follows a member's path, from node to node, to the interface.
func (r reference) site(class int, m api.Member) lower.Site {
	node, _ := r.Classes().Node(class)
	for _, field := range m.Path {
		if r.graph.Kind(node) == api.TPtr {
			node = r.graph.Parts(node)[0]
		}
		node = r.graph.Parts(node)[slices.Index(r.graph.Names(node), field)]
	}
	iface, _ := r.Classes().Of(node)
	number := 0
	for _, name := range r.graph.Names(node) {
		if name < m.Name {
			number++
		}
	}
	return lower.Site{Iface: iface, Method: number}
}

// slots counts a code's parameters and lets.
func slotsOf(c api.Code) int {
	n := len(c.Params)
	each(c.Body, func(s api.Stmt) {
		if s.Kind == api.SLet {
			n++
		}
	}, func(api.Expr) {})
	return n
}

// holds fails, unless all that is said of a program's code is what the chapter says.
func holds(t *testing.T, src string, p api.Program) *lower.Code {
	t.Helper()
	checked := accepted(t, p)
	c := lowered(t, checked)
	ref := reference{checked, p, checked.Classes().Graph()}
	if got, want := c.Sites(), ref.sites(); !slices.Equal(got, want) {
		t.Fatalf("%s\n%v, not %v", src, got, want)
	}
	all := codes(p)
	for _, code := range all {
		if n, ok := c.Slots(code.Owner, code.Name); n != slotsOf(code) || !ok {
			t.Fatalf("%s\n%s.%s: %d %v", src, code.Owner, code.Name, n, ok)
		}
	}
	bounded(t, src, c, len(all))
	return c
}

// TestReference: P13.2 and P13.3, programs made by chance against the chapter's words.
func TestReference(t *testing.T) {
	m := newMaker(13)
	most, deep := 0, 0
	for range 1000 {
		src := m.program()
		c := holds(t, src, parsed(t, src))
		most = max(most, len(c.Sites()))
		for _, s := range c.Sites() {
			deep = max(deep, s.Method)
		}
	}
	if most < 12 || deep != 2 {
		t.Error("hardly met", most, deep)
	}
}
