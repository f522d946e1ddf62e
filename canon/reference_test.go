package canon_test

import (
	"math/rand"
	"slices"
	"strconv"
	"strings"
	"testing"

	"coil/api"
	"coil/canon"
	"coil/graph"
	"coil/unfold"
)

// reference is the chapter's words taken one by one: a class is the node by which it was first met, its number the place in
// the list of these.
type reference struct {
	*graph.Graph
	apart [][]bool // of each two nodes: do their trees differ?
	met   []int
}

func newReference(g *graph.Graph) *reference {
	r := &reference{Graph: g}
	n := g.Len()
	for a := range n {
		var row []bool
		for b := range n {
			row = append(row, unfold.Label(g, a) != unfold.Label(g, b))
		}
		r.apart = append(r.apart, row)
	}
	for more := true; more; {
		more = false
		for a := range n {
			for b := range n {
				if !r.apart[a][b] && r.childrenApart(a, b) {
					r.apart[a][b], more = true, true
				}
			}
		}
	}
	for _, name := range g.Roots() {
		root, _ := g.Root(name)
		r.meet(root)
	}
	return r
}

func (r *reference) childrenApart(a, b int) bool {
	x, y := unfold.Children(r.Graph, a), unfold.Children(r.Graph, b)
	for i := range x {
		if r.apart[x[i]][y[i]] {
			return true
		}
	}
	return false
}

// class is the number of the node's class; -1, if it was not met.
func (r *reference) class(node int) int {
	return slices.IndexFunc(r.met, func(other int) bool { return !r.apart[node][other] })
}

func (r *reference) meet(node int) {
	if r.class(node) >= 0 {
		return
	}
	r.met = append(r.met, node)
	for _, child := range unfold.Children(r.Graph, node) {
		r.meet(child)
	}
	if r.Kind(node) == api.TRec && r.Owner(node) != "" {
		for _, name := range r.Methods(r.Owner(node)) {
			method, _ := r.Method(r.Owner(node), name)
			r.meet(method)
		}
	}
}

// children are the classes of a node's children.
func (r *reference) children(node int) []int {
	var l []int
	for _, child := range unfold.Children(r.Graph, node) {
		l = append(l, r.class(child))
	}
	return l
}

func (r *reference) text() string {
	var b strings.Builder
	for class, node := range r.met {
		b.WriteString(strconv.Itoa(class) + " " + unfold.Label(r.Graph, node))
		for _, child := range r.children(node) {
			b.WriteString(" " + strconv.Itoa(child))
		}
		b.WriteString("\n")
	}
	return b.String()
}

// compare fails, unless the classes are those of the reference, once all of its nodes were met.
func (r *reference) compare(t *testing.T, c *canon.Classes) {
	t.Helper()
	if c.Len() != len(r.met) || c.Text() != r.text() {
		t.Fatalf("%d classes, not %d: %s, not %s", c.Len(), len(r.met), c.Text(), r.text())
	}
	if g := c.Graph(); g.Len() != r.Len() || !slices.Equal(g.Roots(), r.Roots()) {
		t.Fatal(g.Len(), g.Roots())
	}
	for node := range r.Len() {
		class, ok := c.Of(node)
		if class != r.class(node) || !ok {
			t.Fatalf("%d: %d, %v, not %d", node, class, ok, r.class(node))
		}
		if c.Label(class) != unfold.Label(r.Graph, node) || !slices.Equal(c.Children(class), r.children(node)) {
			t.Fatalf("%d: %s, %v", node, c.Label(class), c.Children(class))
		}
	}
	for class := range r.met {
		least := 0
		for r.class(least) != class {
			least++
		}
		if n, ok := c.Node(class); n != least || !ok {
			t.Fatalf("%d: node %d, %v, not %d", class, n, ok, least)
		}
	}
	for _, name := range r.Roots() {
		root, _ := r.Root(name)
		if class, ok := c.Root(name); class != r.class(root) || !ok {
			t.Fatalf("%s: %d, %v, not %d", name, class, ok, r.class(root))
		}
	}
}

// compareIds fails, unless Ids and With say of the types what the chapter's words say.
func compareIds(t *testing.T, c *canon.Classes, l []api.Type) {
	t.Helper()
	g := c.Graph()
	nodes, err := g.Add(l...)
	if err != nil {
		t.Fatal(err)
	}
	r := newReference(g)
	for n := range c.Graph().Len() {
		r.meet(n)
	}
	if len(r.met) != c.Len() {
		t.Fatal(len(r.met), c.Len())
	}
	var want []int
	for _, n := range nodes {
		r.meet(n)
		want = append(want, r.class(n))
	}
	numbers(t, c, l, want...)
	r.compare(t, withs(t, c, l...))
}

// maker makes sets by chance, the same ones each time.
type maker struct{ *rand.Rand }

// names are some names, in any order.
func (m maker) names() []string {
	l := strings.Fields("a b a_ aB a1")[:1+m.Intn(5)]
	m.Shuffle(len(l), func(i, j int) { l[i], l[j] = l[j], l[i] })
	return l[:m.Intn(min(len(l), 3)+1)]
}

func (m maker) typ(room, names int) api.Type {
	if room == 0 || m.Intn(3) == 0 {
		if m.Intn(6) == 0 || names == 0 {
			return api.Type{Kind: api.TInt + m.Intn(3)}
		}
		return named("D" + strconv.Itoa(m.Intn(names)))
	}
	return m.whole(room, names)
}

// whole is a type that is no name; few kinds, so that many trees begin alike.
func (m maker) whole(room, names int) api.Type {
	switch m.Intn(7) {
	case 0:
		return api.Type{Kind: api.TFn, Parts: []api.Type{m.typ(room-1, names), m.typ(room-1, names)}}
	case 1:
		t := api.Type{Kind: api.TIface, Names: m.names()}
		for range t.Names {
			t.Parts = append(t.Parts, api.Type{Kind: api.TFn, Parts: []api.Type{m.typ(room-1, names)}})
		}
		return t
	case 2, 3:
		return pointer(m.typ(room-1, names))
	}
	t := record(m.names())
	if m.Intn(2) == 0 {
		t = record([]string{"b", "a"})
	}
	for i := range t.Names {
		part := m.typ(room-1, names)
		if m.Intn(12) == 0 {
			t.Embeds[i], part = true, pointer(record(nil))
		}
		t.Parts = append(t.Parts, part)
	}
	return t
}

// alike is a record of two fields that lead to definitions: most trees of such ones differ far from their beginnings.
func (m maker) alike(names int) api.Type {
	l := []string{"a", "b"}
	m.Shuffle(2, func(i, j int) { l[i], l[j] = l[j], l[i] })
	x, y := named("D"+strconv.Itoa(m.Intn(names))), named("D"+strconv.Itoa(m.Intn(names)))
	if m.Intn(2) == 0 {
		y = x
	}
	return record(l, x, y)
}

// set is definitions and some methods.
func (m maker) set() (defs []api.Def, methods []api.Code) {
	n := m.Intn(12)
	alike := m.Intn(2) == 0
	owners := m.Intn(3)
	for i := range n {
		d := def("D"+strconv.Itoa(i), m.whole(2, n))
		switch {
		case i > 0 && m.Intn(6) == 0:
			d.T = named("D" + strconv.Itoa(m.Intn(i)))
		case i > 0 && alike:
			d.T = m.alike(n)
		}
		defs = append(defs, d)
		if d.T.Kind != api.TRec || m.Intn(4) >= owners {
			continue
		}
		for _, name := range m.names() {
			method := api.Code{Owner: d.Name, Name: "m" + name, Result: m.typ(1, n)}
			for k := range m.Intn(3) {
				method.Params = append(method.Params, api.Param{Name: "p" + strconv.Itoa(k), T: m.typ(1, n)})
			}
			methods = append(methods, method)
		}
	}
	return defs, methods
}

// types are some types; some of them several times.
func (m maker) types(names int) []api.Type {
	var l []api.Type
	for range m.Intn(5) {
		x := m.typ(1+m.Intn(2), names)
		l = append(l, x)
		if m.Intn(4) == 0 {
			l = append(l, pointer(x), x)
		}
	}
	return l
}

// turned is the same set in another order, with the fields of its records and the methods of its interfaces in another
// order too.
func (m maker) turned(defs []api.Def, methods []api.Code) ([]api.Def, []api.Code) {
	defs, methods = slices.Clone(defs), slices.Clone(methods)
	for i := range defs {
		defs[i].T = m.turnedType(defs[i].T)
	}
	m.Shuffle(len(defs), func(i, j int) { defs[i], defs[j] = defs[j], defs[i] })
	m.Shuffle(len(methods), func(i, j int) { methods[i], methods[j] = methods[j], methods[i] })
	return defs, methods
}

func (m maker) turnedType(t api.Type) api.Type {
	x := api.Type{Kind: t.Kind, Name: t.Name}
	order := m.Perm(len(t.Parts))
	if t.Kind == api.TFn {
		slices.Sort(order)
	}
	for _, i := range order {
		x.Parts = append(x.Parts, m.turnedType(t.Parts[i]))
		if len(t.Names) > 0 {
			x.Names = append(x.Names, t.Names[i])
		}
		if len(t.Embeds) > 0 {
			x.Embeds = append(x.Embeds, t.Embeds[i])
		}
	}
	return x
}

// TestReference: P6.1 to P6.6, sets made by chance against the chapter's words.
func TestReference(t *testing.T) {
	m := maker{rand.New(rand.NewSource(6))}
	merged, distinct, owned := 0, 0, 0
	for range 1500 {
		defs, methods := m.set()
		g, err := graph.New(defs, methods...)
		if err != nil {
			t.Fatalf("%v: %+v", err, defs)
		}
		led := canon.New(g).Text()
		if _, err := g.Add(m.types(len(defs))...); err != nil {
			t.Fatal(err)
		}
		r := newReference(g)
		if r.text() != led {
			t.Fatalf("%s, not %s", led, r.text())
		}
		for n := range g.Len() {
			r.meet(n)
		}
		c := canon.New(g)
		r.compare(t, c)
		compareIds(t, c, m.types(len(defs)))
		more := withs(t, c, m.types(len(defs))...)
		compareIds(t, more, m.types(len(defs)))
		r.compare(t, c)

		turnedDefs, turnedMethods := m.turned(defs, methods)
		other, err := graph.New(turnedDefs, turnedMethods...)
		if err != nil {
			t.Fatal(err)
		}
		if s := canon.New(other).Text(); s != led {
			t.Fatalf("%s, not %s: %+v", s, led, defs)
		}
		merged += g.Len() - c.Len()
		distinct += c.Len()
		owned += len(methods)
	}
	if merged < 5000 || distinct < 5000 || owned < 1000 {
		t.Error("hardly met:", merged, distinct, owned)
	}
}

// TestDiffer: P6.4, sets made by chance: two nodes are of one class just if Differ finds nothing.
func TestDiffer(t *testing.T) {
	m := maker{rand.New(rand.NewSource(7))}
	for range 500 {
		defs, methods := m.set()
		g, err := graph.New(defs, methods...)
		if err != nil {
			t.Fatal(err)
		}
		c := canon.New(g)
		for a := range g.Len() {
			for b := range g.Len() {
				x, _ := c.Of(a)
				y, _ := c.Of(b)
				if _, apart := unfold.Differ(g, a, b); apart != (x != y) {
					t.Fatalf("%d, %d: %v, %d, %d", a, b, apart, x, y)
				}
			}
		}
	}
}
