package unfold_test

import (
	"math/rand"
	"slices"
	"strconv"
	"strings"
	"testing"

	"coil/api"
	"coil/graph"
	"coil/unfold"
)

// reference is the chapter's words taken one by one, of a graph whose nodes are all looked at ahead.
type reference struct {
	labels   []string
	names    [][]string // of the steps to the children
	children [][]int
}

func newReference(g *graph.Graph) *reference {
	r := &reference{}
	for n := range g.Len() {
		r.look(g, n)
	}
	return r
}

// look finds the fields' places by asking, for each name in turn, where it stands.
func (r *reference) look(g *graph.Graph, n int) {
	parts, names := g.Parts(n), g.Names(n)
	label, steps, children := "", make([]string, len(parts)), parts
	switch g.Kind(n) {
	case api.TInt:
		label = "int"
	case api.TBool:
		label = "bool"
	case api.TText:
		label = "text"
	case api.TPtr:
		label = "*"
	case api.TFn:
		label = "fn " + strconv.Itoa(len(parts))
	case api.TIface, api.TRec:
		label, children = "interface", nil
		if g.Kind(n) == api.TRec {
			label = "record"
		}
		if s := g.Owner(n); s != "" {
			label += " of " + s
		}
		steps = slices.Sorted(slices.Values(names))
		for _, name := range steps {
			i := slices.Index(names, name)
			label += " "
			if g.Kind(n) == api.TRec && g.Embeds(n)[i] {
				label += "+"
			}
			label += name
			children = append(children, parts[i])
		}
	}
	r.labels, r.names, r.children = append(r.labels, label), append(r.names, steps), append(r.children, children)
}

func (r *reference) text(n, depth int) string {
	if depth < 1 {
		return ".."
	}
	if depth == 1 || len(r.children[n]) == 0 {
		return r.labels[n]
	}
	var l []string
	for _, c := range r.children[n] {
		l = append(l, r.text(c, depth-1))
	}
	return r.labels[n] + "(" + strings.Join(l, ", ") + ")"
}

// far is how far from two nodes the nearest labels lie that differ, of each two nodes; -1, where there are none. Round by
// round: those of which two children, by one step, were known a round ago.
func (r *reference) far() [][]int {
	n := len(r.labels)
	far := make([][]int, n)
	for a := range n {
		for b := range n {
			d := -1
			if r.labels[a] != r.labels[b] {
				d = 0
			}
			far[a] = append(far[a], d)
		}
	}
	for round, more := 1, true; more; round++ {
		more = false
		for a := range n {
			for b := range n {
				if far[a][b] >= 0 {
					continue
				}
				for i, c := range r.children[a] {
					if far[c][r.children[b][i]] == round-1 {
						far[a][b], more = round, true
					}
				}
			}
		}
	}
	return far
}

// differ goes, from two nodes on, always by the least step that comes nearer to labels that differ.
func (r *reference) differ(far [][]int, a, b int) (path []api.Step, ok bool) {
	if far[a][b] < 0 {
		return nil, false
	}
	for far[a][b] > 0 {
		for i, c := range r.children[a] {
			if d := r.children[b][i]; far[c][d] == far[a][b]-1 {
				path = append(path, api.Step{N: i, Name: r.names[a][i]})
				a, b = c, d
				break
			}
		}
	}
	return path, true
}

// spread is every path from two nodes on, of one length, in the order of their Ns.
type spread struct {
	path []api.Step
	a, b int
}

// search looks at every path, the shorter ones first, up to some length; beyond it it says so.
func (r *reference) search(a, b, length int) (path []api.Step, ok, beyond bool) {
	level := []spread{{nil, a, b}}
	for range length {
		var next []spread
		for _, s := range level {
			if r.labels[s.a] != r.labels[s.b] {
				return s.path, true, false
			}
			for i, c := range r.children[s.a] {
				step := api.Step{N: i, Name: r.names[s.a][i]}
				next = append(next, spread{append(slices.Clone(s.path), step), c, r.children[s.b][i]})
			}
		}
		if level = next; len(level) == 0 {
			return nil, false, false
		}
	}
	return nil, false, true
}

func (r *reference) reach(nodes []int) []int {
	met := map[int]bool{}
	var visit func(n int)
	visit = func(n int) {
		if n < 0 || n >= len(r.labels) || met[n] {
			return
		}
		met[n] = true
		for _, c := range r.children[n] {
			visit(c)
		}
	}
	for _, n := range nodes {
		visit(n)
	}
	var l []int
	for n := range met {
		l = append(l, n)
	}
	slices.Sort(l)
	return l
}

// maker makes sets by chance, the same ones each time.
type maker struct{ *rand.Rand }

// names are some names, in any order.
func (m maker) names() []string {
	l := strings.Fields("a b a_ aB a1")[:1+m.Intn(5)]
	m.Shuffle(len(l), func(i, j int) { l[i], l[j] = l[j], l[i] })
	return l[:m.Intn(min(len(l), 3)+1)]
}

func (m maker) typ(room, names int) api.Type {
	if room == 0 || m.Intn(3) == 0 {
		if m.Intn(6) == 0 {
			return api.Type{Kind: api.TInt + m.Intn(3)}
		}
		return named("D" + strconv.Itoa(m.Intn(names)))
	}
	return m.whole(room, names)
}

// whole is a type that is no name; few kinds, so that many trees begin alike.
func (m maker) whole(room, names int) api.Type {
	switch m.Intn(7) {
	case 0:
		return api.Type{Kind: api.TFn, Parts: []api.Type{m.typ(room-1, names), m.typ(room-1, names)}}
	case 1:
		t := api.Type{Kind: api.TIface, Names: m.names()}
		for range t.Names {
			t.Parts = append(t.Parts, api.Type{Kind: api.TFn, Parts: []api.Type{m.typ(room-1, names)}})
		}
		return t
	case 2:
		return pointer(m.typ(room-1, names))
	}
	t := record(m.names())
	if m.Intn(2) == 0 {
		t = record([]string{"b", "a"})
	}
	for i := range t.Names {
		part := m.typ(room-1, names)
		if m.Intn(12) == 0 {
			t.Embeds[i], part = true, pointer(record(nil))
		}
		t.Parts = append(t.Parts, part)
	}
	return t
}

// alike is a record of two fields that lead to definitions: most trees of such ones differ far from their beginnings.
func (m maker) alike(names int) api.Type {
	l := []string{"a", "b"}
	m.Shuffle(2, func(i, j int) { l[i], l[j] = l[j], l[i] })
	step := func() api.Type { return named("D" + strconv.Itoa(m.Intn(names))) }
	x, y := step(), step()
	if m.Intn(2) == 0 {
		y = x
	}
	return record(l, x, y)
}

// set is a graph of definitions and some methods.
func (m maker) set(t *testing.T) *graph.Graph {
	t.Helper()
	n := 2 + m.Intn(10)
	alike := m.Intn(2) == 0
	var defs []api.Def
	var methods []api.Code
	for i := range n {
		d := def("D"+strconv.Itoa(i), m.whole(2, n))
		if alike && i > 0 {
			d.T = m.alike(n)
		}
		if m.Intn(8) == 0 && d.T.Kind == api.TRec {
			methods = append(methods, api.Code{Owner: d.Name, Name: "m", Result: m.typ(1, n)})
		}
		defs = append(defs, d)
	}
	g, err := graph.New(defs, methods...)
	if err != nil {
		t.Fatalf("%v: %+v", err, defs)
	}
	return g
}

// TestReference: P5.1 to P5.6, sets made by chance against the chapter's words.
func TestReference(t *testing.T) {
	m := maker{rand.New(rand.NewSource(5))}
	lengths, same := map[int]int{}, 0
	for range 1500 {
		g := m.set(t)
		r := newReference(g)
		far := r.far()
		for a := range g.Len() {
			r.compare(t, g, a)
			for b := range g.Len() {
				path, ok := unfold.Differ(g, a, b)
				want, wantOK := r.differ(far, a, b)
				if ok != wantOK || !slices.Equal(path, want) || len(path) >= g.Len() {
					t.Fatalf("%d, %d: %q, %v, not %q, %v: %q %v", a, b, shown(path), ok, shown(want), wantOK, r.labels, r.children)
				}
				want, wantOK, beyond := r.search(a, b, 4)
				if beyond && ok && len(path) < 4 || !beyond && (ok != wantOK || !slices.Equal(path, want)) {
					t.Fatalf("%d, %d: %q, %v, not %q, %v: %q %v", a, b, shown(path), ok, shown(want), wantOK, r.labels, r.children)
				}
				if ok {
					lengths[len(path)]++
				} else if a != b {
					same++
				}
			}
		}
		r.compareReach(t, m, g)
	}
	for n := range 6 {
		if lengths[n] < 50 {
			t.Error("hardly met:", n, lengths)
		}
	}
	if same < 5000 {
		t.Error("hardly met:", same)
	}
}

// compare compares what is said of one node.
func (r *reference) compare(t *testing.T, g *graph.Graph, n int) {
	t.Helper()
	if s := unfold.Label(g, n); s != r.labels[n] {
		t.Fatalf("%q, not %q", s, r.labels[n])
	}
	if l := unfold.Children(g, n); !slices.Equal(l, r.children[n]) {
		t.Fatalf("%d: %v, not %v", n, l, r.children[n])
	}
	for _, depth := range []int{-1, 0, 1, 2, 3, 5} {
		if s, want := unfold.Text(g, n, depth), r.text(n, depth); s != want {
			t.Fatalf("%d, %d: %q, not %q", n, depth, s, want)
		}
	}
	for i := -1; i <= len(r.children[n]); i++ {
		for _, name := range append([]string{"", "a", "A"}, r.names[n]...) {
			to, ok := unfold.Follow(g, n, api.Step{N: i, Name: name})
			want, wantOK := 0, i >= 0 && i < len(r.names[n]) && r.names[n][i] == name
			if wantOK {
				want = r.children[n][i]
			}
			if to != want || ok != wantOK {
				t.Fatalf("%d by %s %d: %d, %v, not %d, %v", n, name, i, to, ok, want, wantOK)
			}
		}
	}
}

func (r *reference) compareReach(t *testing.T, m maker, g *graph.Graph) {
	t.Helper()
	for range 10 {
		var nodes []int
		for range m.Intn(4) {
			nodes = append(nodes, m.Intn(g.Len()+2)-1)
		}
		if l, want := unfold.Reach(g, nodes...), r.reach(nodes); !slices.Equal(l, want) {
			t.Fatalf("%v: %v, not %v", nodes, l, want)
		}
	}
}
