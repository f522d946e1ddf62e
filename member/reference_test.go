package member_test

import (
	"math/rand"
	"reflect"
	"slices"
	"strconv"
	"strings"
	"testing"

	"coil/api"
	"coil/canon"
	"coil/graph"
	"coil/member"
)

// reference is the chapter's words taken one by one: all that stands at a depth is listed, once for each path. What a class
// is, it reads from its label.
type reference struct{ *canon.Classes }

// stand is a record or interface at the end of a path.
type stand struct {
	class int
	path  []string
}

// words are those of a class's label behind its kind and its owner, and the owner.
func (r reference) words(class int) (names []string, owner string) {
	names = strings.Fields(r.Label(class))[1:]
	if len(names) > 1 && names[0] == "of" && names[1][0] >= 'A' && names[1][0] <= 'Z' {
		return names[2:], names[1]
	}
	return names, ""
}

func (r reference) is(class int, kind string) bool { return strings.Fields(r.Label(class))[0] == kind }

func (r reference) base(class int) []int {
	if r.is(class, "*") && r.is(r.Children(class)[0], "record") {
		return r.Children(class)
	}
	if r.is(class, "record") || r.is(class, "interface") {
		return []int{class}
	}
	return nil
}

// gives lists the members that stand in a class itself.
func (r reference) gives(class int) []api.Member {
	var l []api.Member
	kind := api.MField
	if r.is(class, "interface") {
		kind = api.MIface
	}
	names, owner := r.words(class)
	for i, child := range r.Children(class) {
		l = append(l, api.Member{Kind: kind, Name: strings.TrimPrefix(names[i], "+"), Node: child})
	}
	g := r.Graph()
	for _, name := range g.Methods(owner) {
		node, _ := g.Method(owner, name)
		k, _ := r.Of(node)
		l = append(l, api.Member{Kind: api.MMethod, Owner: owner, Name: name, Node: k})
	}
	return l
}

// next is what stands at the depth behind that of these.
func (r reference) next(here []stand) []stand {
	var l []stand
	for _, s := range here {
		if !r.is(s.class, "record") {
			continue
		}
		names, _ := r.words(s.class)
		for i, child := range r.Children(s.class) {
			if name, ok := strings.CutPrefix(names[i], "+"); ok {
				l = append(l, stand{r.base(child)[0], append(slices.Clone(s.path), name)})
			}
		}
	}
	return l
}

// reached is how many records and interfaces embeddings lead to: at no more depths can a name stand for the first time.
func (r reference) reached(class int) int {
	met := r.base(class)
	for i := 0; i < len(met); i++ {
		for _, s := range r.next([]stand{{class: met[i]}}) {
			if !slices.Contains(met, s.class) {
				met = append(met, s.class)
			}
		}
	}
	return len(met)
}

// depths lists the members of a class at each depth; false, if they are too many.
func (r reference) depths(class int) ([][]api.Member, bool) {
	var here []stand
	for _, base := range r.base(class) {
		here = append(here, stand{class: base})
	}
	var l [][]api.Member
	for range r.reached(class) {
		if len(here) > 1000 {
			return nil, false
		}
		var at []api.Member
		for _, s := range here {
			for _, m := range r.gives(s.class) {
				m.Path = s.path
				at = append(at, m)
			}
		}
		l = append(l, at)
		here = r.next(here)
	}
	return l, true
}

// only lists those of that name.
func only(l []api.Member, name string) []api.Member {
	return slices.DeleteFunc(slices.Clone(l), func(m api.Member) bool { return m.Name != name })
}

// lookup is what Lookup must say, and Depths.
func lookup(depths [][]api.Member, name string) (api.Member, api.Errno, []int) {
	var counts []int
	for _, l := range depths {
		l = only(l, name)
		counts = append(counts, min(len(l), 2))
		if len(l) == 1 {
			return l[0], api.OK, counts
		}
		if len(l) > 1 {
			return api.Member{}, api.ErrAmbiguous, counts
		}
	}
	return api.Member{}, api.ErrNoMember, nil
}

// alike: are they the same, nil and empty paths too?
func alike(a, b api.Member) bool {
	if !slices.Equal(a.Path, b.Path) {
		return false
	}
	a.Path, b.Path = nil, nil
	return reflect.DeepEqual(a, b)
}

// names are those of the members, and others, sorted.
func names(depths [][]api.Member) []string {
	l := strings.Fields("a b c d e m n no o of p")
	for _, at := range depths {
		for _, m := range at {
			l = append(l, m.Name)
		}
	}
	slices.Sort(l)
	return slices.Compact(l)
}

// compare fails, unless all calls say of a class what the chapter's words say; it counts what was found, ambiguous, none.
func (r reference) compare(t *testing.T, class int, depths [][]api.Member, met map[api.Errno]int) {
	t.Helper()
	var all, methods []api.Member
	for _, name := range names(depths) {
		want, why, counts := lookup(depths, name)
		met[why]++
		m, e := member.Lookup(r.Classes, class, name)
		if e != why || !alike(m, want) {
			t.Fatalf("%s\n%d %s: %+v, %v, not %+v, %v", r.Text(), class, name, m, e, want, why)
		}
		if l := member.Depths(r.Classes, class, name); !slices.Equal(l, counts) {
			t.Fatalf("%s\n%d %s: %v, not %v", r.Text(), class, name, l, counts)
		}
		if why != api.OK {
			continue
		}
		all = append(all, want)
		if want.Kind != api.MField {
			methods = append(methods, want)
		}
		signature := -1
		if want.Kind != api.MField {
			signature = want.Node
		}
		if got := member.Signature(r.Classes, m); got != signature {
			t.Fatalf("%+v: %d, not %d", m, got, signature)
		}
		r.follow(t, class, m)
	}
	if l := member.All(r.Classes, class); !slices.EqualFunc(l, all, alike) {
		t.Fatalf("%s\n%d: %+v, not %+v", r.Text(), class, l, all)
	}
	if l := member.Methods(r.Classes, class); !slices.EqualFunc(l, methods, alike) {
		t.Fatalf("%s\n%d: %+v, not %+v", r.Text(), class, l, methods)
	}
}

// follow fails, unless P7.6 holds: a member's path, followed field by field, leads to what has the member at depth 0.
func (r reference) follow(t *testing.T, class int, m api.Member) {
	t.Helper()
	for _, name := range m.Path {
		step, why := member.Lookup(r.Classes, class, name)
		record := r.base(class)[0]
		if fields, _ := r.words(record); why != api.OK || len(step.Path) > 0 || step.Kind != api.MField || !slices.Contains(fields, "+"+name) {
			t.Fatalf("%s\n%+v: %s of %d: %+v, %v", r.Text(), m, name, class, step, why)
		}
		class = step.Node
	}
	m.Path = nil
	if end, why := member.Lookup(r.Classes, class, m.Name); why != api.OK || !alike(end, m) {
		t.Fatalf("%s\n%+v of %d: %+v, %v", r.Text(), m, class, end, why)
	}
}

// maker makes sets by chance, the same ones each time.
type maker struct{ *rand.Rand }

func (m maker) some(words string, most int) []string {
	l := strings.Fields(words)
	m.Shuffle(len(l), func(i, j int) { l[i], l[j] = l[j], l[i] })
	return l[:m.Intn(most+1)]
}

func (m maker) iface() api.Type {
	t := api.Type{Kind: api.TIface, Names: m.some("m n of a", 2)}
	for range t.Names {
		t.Parts = append(t.Parts, api.Type{Kind: api.TFn, Parts: []api.Type{{Kind: api.TInt + m.Intn(3)}}})
	}
	return t
}

// record is a record whose embedded fields lead to the definitions, which are n, and to records and interfaces of their own.
func (m maker) record(room, n int) api.Type {
	var fields []field
	for _, name := range m.some("a b c d e m of", 5) {
		f := field{name, m.Intn(5) < 3, api.Type{Kind: api.TInt + m.Intn(3)}}
		if f.embedded || m.Intn(4) == 0 {
			f.t = m.embeddable(room, n)
		}
		fields = append(fields, f)
	}
	return record(fields...)
}

func (m maker) embeddable(room, n int) api.Type {
	switch k := m.Intn(12); {
	case k < 6:
		return named("R" + strconv.Itoa(m.Intn(n)))
	case k < 9:
		return pointer(named("R" + strconv.Itoa(m.Intn(n))))
	case k < 10 || room == 0:
		return m.iface()
	case k < 11:
		return pointer(m.record(room-1, n))
	}
	return m.record(room-1, n)
}

// set is definitions of records, some with methods, and pointers to them.
func (m maker) set() (defs []api.Def, methods []api.Code) {
	n := 1 + m.Intn(6)
	for i := range n {
		d := def("R"+strconv.Itoa(i), m.record(1, n))
		defs = append(defs, d, def("P"+strconv.Itoa(i), pointer(named(d.Name))))
		for _, name := range m.some("m n o p a", 2) {
			if m.Intn(2) == 0 && !slices.Contains(d.T.Names, name) {
				methods = append(methods, api.Code{Owner: d.Name, Name: name, Result: api.Type{Kind: api.TInt + m.Intn(3)}})
			}
		}
	}
	return append(defs, def("Q", pointer(pointer(named("R0"))))), methods
}

// TestFollows: P7.5 to P7.7, of the sets of the chapter's runs and others.
func TestFollows(t *testing.T) {
	for _, src := range []string{"", runs, kept,
		"type A = {embed b *B; embed c *C; x int;}; type B = {embed a *A; y int;}; method B.m() int {} type C = {embed b B; embed e *C; z interface {};}; type I = interface {m() I;}; type P = *C; type Q = *I;",
		"type A = {embed a {embed b {embed c *{embed d interface {m() int;};};};};}; type P = *A; type Q = **A; type B = {embed p P; x int;}; method B.d() B {}",
	} {
		r := reference{made(t, src, "*{a int; embed b {c int;};}", "**int")}
		for class := range r.Len() {
			depths, ok := r.depths(class)
			if !ok {
				t.Fatal(src, class)
			}
			r.compare(t, class, depths, map[api.Errno]int{})
		}
		r.pointers(t)
	}
}

// TestReference: P7.1 to P7.7, sets made by chance against the chapter's words.
func TestReference(t *testing.T) {
	m := maker{rand.New(rand.NewSource(7))}
	met, passed, long := map[api.Errno]int{}, 0, 0
	for range 1200 {
		defs, methods := m.set()
		r := reference{built(t, defs, methods...)}
		for class := range r.Len() {
			depths, ok := r.depths(class)
			if !ok {
				passed++
				continue
			}
			r.compare(t, class, depths, met)
			long = max(long, len(depths))
		}
		r.pointers(t)
		turned(t, m, r, defs, methods)
	}
	if met[api.OK] < 30000 || met[api.ErrAmbiguous] < 3000 || met[api.ErrNoMember] < 30000 || passed > 1000 || long < 6 {
		t.Error("hardly met:", met, passed, long)
	}
}

// pointers fails, unless P7.7 holds: a record and a pointer to it have the same members, and All has all names at depth 0.
func (r reference) pointers(t *testing.T) {
	t.Helper()
	for _, name := range r.Graph().Roots() {
		class, _ := r.Root(name)
		to := r.base(class)
		if len(to) == 0 {
			if l := member.All(r.Classes, class); len(l) != 0 {
				t.Fatalf("%s: %+v", name, l)
			}
			continue
		}
		l := member.All(r.Classes, class)
		if !reflect.DeepEqual(l, member.All(r.Classes, to[0])) || !reflect.DeepEqual(member.Methods(r.Classes, class), member.Methods(r.Classes, to[0])) {
			t.Fatalf("%s: %+v", name, l)
		}
		for _, m := range r.gives(to[0]) {
			if !slices.ContainsFunc(l, func(x api.Member) bool { return alike(x, m) }) {
				t.Fatalf("%s: %+v has no %+v", name, l, m)
			}
		}
	}
}

// turned fails, unless the same set in another order has the same members, and so has it with other types beside it.
func turned(t *testing.T, m maker, r reference, defs []api.Def, methods []api.Code) {
	t.Helper()
	m.Shuffle(len(defs), func(i, j int) { defs[i], defs[j] = defs[j], defs[i] })
	m.Shuffle(len(methods), func(i, j int) { methods[i], methods[j] = methods[j], methods[i] })
	g, err := graph.New(defs, methods...)
	if err != nil {
		t.Fatal(err)
	}
	if _, err := g.Add(m.record(1, 1), pointer(pointer(m.iface()))); err != nil {
		t.Fatal(err)
	}
	c := canon.New(g)
	for class := range r.Len() {
		if a, b := member.All(c, class), member.All(r.Classes, class); !reflect.DeepEqual(a, b) {
			t.Fatalf("%d: %+v, not %+v", class, a, b)
		}
	}
}
