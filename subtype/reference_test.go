package subtype_test

import (
	"math/rand"
	"slices"
	"strings"
	"testing"

	"coil/api"
	"coil/canon"
	"coil/graph"
	"coil/member"
	"coil/subtype"
)

// reference is the chapter's words taken one by one, over the nodes of a graph. It knows neither labels nor distances.
type reference struct {
	*canon.Classes
	graph *graph.Graph
}

func referenceOf(c *canon.Classes) reference { return reference{c, c.Graph()} }

// piece is a part of a class.
type piece struct {
	name     string
	embedded bool
	class    int
}

func (r reference) kind(class int) int {
	node, _ := r.Node(class)
	return r.graph.Kind(node)
}

// pieces lists the parts of a class, those with names by their bytes.
func (r reference) pieces(class int) []piece {
	node, _ := r.Node(class)
	names, embeds := r.graph.Names(node), r.graph.Embeds(node)
	var l []piece
	for i, part := range r.graph.Parts(node) {
		var p piece
		p.class, _ = r.Of(part)
		if len(names) > 0 {
			p.name = names[i]
		}
		if len(embeds) > 0 {
			p.embedded = embeds[i]
		}
		l = append(l, p)
	}
	slices.SortStableFunc(l, func(a, b piece) int { return strings.Compare(a.name, b.name) })
	return l
}

// step is a premise, and the step to it.
type step struct {
	api.Step
	pair [2]int
}

// premises are those of a pair; false, if it is no conclusion.
func (r reference) premises(p [2]int) ([]step, bool) {
	var l []step
	premise := func(name string, a, b int) { l = append(l, step{api.Step{Name: name, N: len(l)}, [2]int{a, b}}) }
	as, bs := r.pieces(p[0]), r.pieces(p[1])
	if r.kind(p[1]) == api.TIface {
		for _, m := range bs {
			found, why := member.Lookup(r.Classes, p[0], m.name)
			if why != api.OK || found.Kind == api.MField {
				return nil, false
			}
			premise(m.name, member.Signature(r.Classes, found), m.class)
		}
		return l, true
	}
	a, _ := r.Node(p[0])
	b, _ := r.Node(p[1])
	if r.graph.Kind(a) != r.graph.Kind(b) || r.graph.Owner(a) != r.graph.Owner(b) || len(as) != len(bs) {
		return nil, false
	}
	for i, x := range as {
		y := bs[i]
		if x.name != y.name || x.embedded != y.embedded {
			return nil, false
		}
		if r.graph.Kind(a) == api.TFn && i < len(as)-1 {
			premise("", y.class, x.class)
			continue
		}
		premise(x.name, x.class, y.class)
		if x.embedded {
			premise(x.name, y.class, x.class)
		}
	}
	return l, true
}

// greatest takes pairs away from all, till each that is left is a conclusion whose premises are left.
func (r reference) greatest() [][]bool {
	left := make([][]bool, r.Len())
	for a := range left {
		left[a] = slices.Repeat([]bool{true}, r.Len())
	}
	for again := true; again; {
		again = false
		for a := range left {
			for b := range left {
				if left[a][b] && !r.stays([2]int{a, b}, left) {
					left[a][b], again = false, true
				}
			}
		}
	}
	return left
}

func (r reference) stays(p [2]int, left [][]bool) bool {
	l, ok := r.premises(p)
	for _, s := range l {
		ok = ok && left[s.pair[0]][s.pair[1]]
	}
	return ok
}

// why goes from the pair on by premises, all ways of a length ahead of longer ones, each earlier premise ahead of later ones.
func (r reference) why(p [2]int) ([]api.Step, bool) {
	type end struct {
		pair [2]int
		way  []api.Step
	}
	ends := []end{{pair: p}}
	for i := 0; i < len(ends); i++ {
		l, ok := r.premises(ends[i].pair)
		if !ok {
			return ends[i].way, true
		}
		for _, s := range l {
			if !slices.ContainsFunc(ends, func(e end) bool { return e.pair == s.pair }) {
				ends = append(ends, end{s.pair, append(slices.Clone(ends[i].way), s.Step)})
			}
		}
	}
	return nil, false
}

// met counts what was met.
type met struct{ pairs, below, fail, far int }

// compare fails, unless all calls say what the chapter's words say.
func (r reference) compare(t *testing.T, m maker, count *met) {
	t.Helper()
	want := r.greatest()
	all := subtype.New(r.Classes).All()
	asked := subtype.New(r.Classes) // pair by pair, in an order of its own
	for _, n := range m.Perm(r.Len() * r.Len()) {
		a, b := n/r.Len(), n%r.Len()
		ok, why := asked.Below(a, b)
		if ok != want[a][b] || why != api.OK || all[a][b] != ok {
			t.Fatalf("%s\n%d < %d: %v, %v, not %v", r.Text(), a, b, ok, all[a][b], want[a][b])
		}
		r.comparePair(t, asked, [2]int{a, b}, count)
	}
	r.order(t, all)
	r.passedUp(t, asked)
}

// comparePair compares Rule and Why.
func (r reference) comparePair(t *testing.T, asked *subtype.Relation, p [2]int, count *met) {
	t.Helper()
	premises, concludes := r.premises(p)
	rule, ok := asked.Rule(p[0], p[1])
	if ok != concludes || !slices.EqualFunc(rule, premises, func(q [2]int, s step) bool { return q == s.pair }) {
		t.Fatalf("%s\n%v: %v, %v, not %v, %v", r.Text(), p, rule, ok, premises, concludes)
	}
	want, not := r.why(p)
	for _, relation := range []*subtype.Relation{asked, subtype.New(r.Classes)} {
		if steps, ok := relation.Why(p[0], p[1]); ok != not || !slices.Equal(steps, want) {
			t.Fatalf("%s\n%v: %v, %v, not %v, %v", r.Text(), p, steps, ok, want, not)
		}
	}
	count.pairs++
	switch {
	case !not && p[0] != p[1] && len(premises) > 0:
		count.below++
	case len(want) > 0:
		count.fail++
	}
	if len(want) > 3 {
		count.far++
	}
}

// order fails, unless P8.4 holds.
func (r reference) order(t *testing.T, all [][]bool) {
	t.Helper()
	for a := range all {
		if !all[a][a] {
			t.Fatalf("%s\n%d isn't below itself", r.Text(), a)
		}
		for b := range all {
			if a != b && all[a][b] && all[b][a] {
				t.Fatalf("%s\n%d, %d are below one another", r.Text(), a, b)
			}
			for c := range all {
				if all[a][b] && all[b][c] && !all[a][c] {
					t.Fatalf("%s\n%d < %d < %d", r.Text(), a, b, c)
				}
			}
		}
	}
}

// passedUp fails, unless P8.5 holds: what is below an interface has its methods, with signatures that are below.
func (r reference) passedUp(t *testing.T, asked *subtype.Relation) {
	t.Helper()
	for b := range r.Len() {
		if r.kind(b) != api.TIface {
			continue
		}
		for a := range r.Len() {
			if ok, _ := asked.Below(a, b); !ok {
				continue
			}
			for _, m := range r.pieces(b) {
				found, why := member.Lookup(r.Classes, a, m.name)
				if ok, _ := asked.Below(member.Signature(r.Classes, found), m.class); why != api.OK || !ok {
					t.Fatalf("%s\n%d < %d: %s: %+v, %v", r.Text(), a, b, m.name, found, why)
				}
			}
		}
	}
}

// maker makes sets by chance, the same ones each time.
type maker struct{ *rand.Rand }

func (m maker) one(words string) string {
	l := strings.Fields(words)
	return l[m.Intn(len(l))]
}

// leaf is a type that leads to others of the set, which are A (a record with methods), I, J, T (interfaces) and D0, D1 ..
func (m maker) leaf() api.Type {
	switch name := m.one("A I J T T T D0 D1 D2 D3 D4 D5 D0 D1 D2 int"); name {
	case "int":
		return api.Type{Kind: api.TInt}
	default:
		return named(name)
	}
}

func (m maker) part(room int) api.Type {
	if room == 0 || m.Intn(3) > 0 {
		return m.leaf()
	}
	return m.made(room - 1)
}

func (m maker) parts(n, room int) []api.Type {
	var l []api.Type
	for range n {
		l = append(l, m.part(room))
	}
	return l
}

// made is a type that is no name.
func (m maker) made(room int) api.Type {
	switch m.Intn(8) {
	case 0, 1:
		return api.Type{Kind: api.TPtr, Parts: m.parts(1, room)}
	case 2, 3:
		return api.Type{Kind: api.TFn, Parts: m.parts(1+m.Intn(2), room)}
	case 4, 5:
		t := api.Type{Kind: api.TIface, Names: strings.Split(m.one("m m m,n n,m o,m"), ",")}
		for range t.Names {
			t.Parts = append(t.Parts, api.Type{Kind: api.TFn, Parts: m.parts(1+m.Intn(5)/4, room)})
		}
		return t
	}
	return m.record(room)
}

func (m maker) record(room int) api.Type {
	t := api.Type{Kind: api.TRec, Names: strings.Split(m.one("a a a,b b,a a,m"), ",")}
	t.Parts = m.parts(len(t.Names), room)
	t.Embeds = make([]bool, len(t.Names))
	if m.Intn(3) == 0 {
		t.Embeds[0] = true
		t.Parts[0] = named(m.one("A I J T"))
		if m.Intn(3) == 0 {
			t.Parts[0] = pointer(named("A"))
		}
	}
	return t
}

// set is definitions, some of them with methods.
func (m maker) set() (defs []api.Def, methods []api.Code) {
	iface := func(names string) api.Type {
		t := api.Type{Kind: api.TIface, Names: strings.Fields(names)}
		for range t.Names {
			t.Parts = append(t.Parts, api.Type{Kind: api.TFn, Parts: []api.Type{m.leaf()}})
		}
		return t
	}
	defs = []api.Def{def("A", m.record(0)), def("I", iface("m")), def("J", iface("n m")), def("T", iface(""))}
	defs[0].T.Names[0], defs[0].T.Embeds[0], defs[0].T.Parts[0] = "x", false, m.leaf()
	for _, name := range []string{"m", "n"} {
		if !slices.Contains(defs[0].T.Names, name) {
			methods = append(methods, api.Code{Owner: "A", Name: name, Result: m.leaf()})
		}
	}
	for _, name := range []string{"D0", "D1", "D2", "D3", "D4", "D5"} {
		d := def(name, m.made(1))
		defs = append(defs, d)
		if d.T.Kind == api.TRec && m.Intn(2) == 0 {
			methods = append(methods, api.Code{Owner: d.Name, Name: "o", Params: []api.Param{{Name: "x", T: m.leaf()}}, Result: m.leaf()})
		}
	}
	return defs, methods
}

// alike is definitions of one label each, which lead to one another, and differ by chance in one part: few of them are below
// others, and many are not for reasons that are far off.
func (m maker) alike() (defs []api.Def, methods []api.Code) {
	kind, n := m.Intn(4), 3+m.Intn(4)
	next := func() api.Type { return named(key("D", m.Intn(n))) }
	fn := func(parts ...api.Type) api.Type { return api.Type{Kind: api.TFn, Parts: parts} }
	for i := range n {
		last := named("T")
		if m.Intn(n) == 0 {
			last = named(m.one("I J A"))
		}
		d := api.Type{Kind: api.TRec, Names: []string{"b", "a", "c"}, Embeds: make([]bool, 3), Parts: []api.Type{next(), pointer(next()), last}}
		switch kind {
		case 1:
			d = fn(next(), next(), last)
		case 2:
			d = fn(next(), fn(next(), last))
		case 3:
			d = api.Type{Kind: api.TIface, Names: []string{"n", "m", "o"}, Parts: []api.Type{fn(fn(next(), last), next()), fn(next()), fn(last)}}
		}
		defs = append(defs, def(key("D", i), d))
	}
	iface := func(names ...string) api.Type {
		return api.Type{Kind: api.TIface, Names: names, Parts: slices.Repeat([]api.Type{fn(named("T"))}, len(names))}
	}
	defs = append(defs, def("T", iface()), def("I", iface("m")), def("J", iface("m", "n")), def("A", api.Type{Kind: api.TRec}))
	return defs, []api.Code{{Owner: "A", Name: "m", Result: next()}}
}

// TestReference: P8.1 to P8.5, sets made by chance against the chapter's words.
func TestReference(t *testing.T) {
	m := maker{rand.New(rand.NewSource(8))}
	var count met
	for i := range 500 {
		defs, methods := m.set()
		if i%2 == 0 {
			defs, methods = m.alike()
		}
		c := built(t, defs, methods...)
		referenceOf(c).compare(t, m, &count)
		renamed(t, c, defs, methods)
		if i%2 == 1 {
			typesOf(t, m, c)
		}
	}
	if count.below < 3000 || count.fail < 10000 || count.far < 200 {
		t.Errorf("hardly met: %+v", count)
	}
}

// TestFollows: P8.1 to P8.5, of the chapter's set and others.
func TestFollows(t *testing.T) {
	m := maker{rand.New(rand.NewSource(9))}
	for _, src := range []string{"", runs, kept, "type P = *P; type F = fn(F) F; type G = fn(F) P; type T = interface {}; type S = interface {s(S) S;}; type U = {embed u *U; embed s S;};"} {
		referenceOf(made(t, src, "*{a int; embed b {c interface {};};}", "**int", "{a int;}", "fn({a interface {};}) *{a interface {};}")).compare(t, m, &met{})
	}
}

// typesOf fails, unless the func Below says of types, those that the classes have and others, what With's relation says.
func typesOf(t *testing.T, m maker, c *canon.Classes) {
	t.Helper()
	for range 20 {
		a, b := m.part(1), m.part(1)
		more, ids, err := c.With(a, b)
		if err != nil {
			t.Fatal(err)
		}
		want := referenceOf(more).greatest()[ids[0]][ids[1]]
		if got, err := subtype.Below(c, a, b); got != want || err != nil {
			t.Fatalf("%s\n%v < %v: %v, %v, not %v", c.Text(), a, b, got, err, want)
		}
		if max(ids[0], ids[1]) < c.Len() {
			if got, _ := subtype.New(c).Below(ids[0], ids[1]); got != want {
				t.Fatalf("%s\n%v < %v: %v over the classes themselves", c.Text(), a, b, got)
			}
		}
	}
}

// turned is the name by which a definition comes at another place among the others.
func turned(name string) string {
	if name == "" {
		return ""
	}
	return string(rune('A'+'Z'-name[0])) + strings.Map(func(d rune) rune { return '0' + '9' - d }, name[1:])
}

func turnedType(t api.Type) api.Type {
	t.Name = turned(t.Name)
	parts := t.Parts
	t.Parts = nil
	for _, p := range parts {
		t.Parts = append(t.Parts, turnedType(p))
	}
	return t
}

// renamed fails, unless the definitions are below one another by other names and in another order as they are by theirs,
// whatever numbers they get.
func renamed(t *testing.T, c *canon.Classes, defs []api.Def, methods []api.Code) {
	t.Helper()
	var others []api.Def
	for _, d := range defs {
		others = append(others, def(turned(d.Name), turnedType(d.T)))
	}
	slices.Reverse(others)
	var codes []api.Code
	for _, m := range methods {
		m.Owner, m.Result = turned(m.Owner), turnedType(m.Result)
		m.Params = slices.Clone(m.Params)
		for i := range m.Params {
			m.Params[i].T = turnedType(m.Params[i].T)
		}
		codes = append(codes, m)
	}
	other := built(t, others, codes...)
	all, turnedAll := subtype.New(c).All(), subtype.New(other).All()
	for _, a := range defs {
		for _, b := range defs {
			x, _ := c.Root(a.Name)
			y, _ := c.Root(b.Name)
			tx, _ := other.Root(turned(a.Name))
			ty, _ := other.Root(turned(b.Name))
			if all[x][y] != turnedAll[tx][ty] {
				t.Fatalf("%s\n%s\n%s < %s", c.Text(), other.Text(), a.Name, b.Name)
			}
		}
	}
}
