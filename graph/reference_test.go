package graph_test

import (
	"math/rand"
	"slices"
	"strconv"
	"strings"
	"testing"

	"coil/api"
	"coil/graph"
	"coil/syntax"
)

// reference is the chapter's words taken one by one: a node is a pointer to its type expression, its number the place in
// a list of them all.
type reference struct {
	defs    []api.Def
	methods []api.Code
	signs   []api.Type // the methods' signatures
	nodes   []*api.Type
	owned   map[*api.Type]string
}

func (r *reference) def(name string) *api.Def {
	for i := range r.defs {
		if r.defs[i].Name == name {
			return &r.defs[i]
		}
	}
	return nil
}

// comesTo is the expression for which t stands; nil, if it comes back to a name that it came by.
func (r *reference) comesTo(t *api.Type) *api.Type {
	var by []string
	for t.Kind == api.TName {
		if slices.Contains(by, t.Name) {
			return nil
		}
		by = append(by, t.Name)
		t = &r.def(t.Name).T
	}
	return t
}

// each goes through t and all that stands in it, from the left to the right.
func each(t *api.Type, see func(*api.Type)) {
	see(t)
	for i := range t.Parts {
		each(&t.Parts[i], see)
	}
}

func (r *reference) lay(t *api.Type) {
	each(t, func(x *api.Type) {
		if x.Kind != api.TName {
			r.nodes = append(r.nodes, x)
		}
	})
}

func isRight(t api.Type) bool {
	_, e := syntax.Type(t)
	return e == api.OK
}

// missing is the first name from the left in t that no definition has.
func (r *reference) missing(t *api.Type) string {
	first := ""
	each(t, func(x *api.Type) {
		if first == "" && x.Kind == api.TName && r.def(x.Name) == nil {
			first = x.Name
		}
	})
	return first
}

// misfit is the first field from the left in t that is embedded and may not be.
func (r *reference) misfit(t *api.Type) string {
	if t.Kind == api.TRec {
		for i, embedded := range t.Embeds {
			if embedded && !r.fits(&t.Parts[i]) {
				return t.Names[i]
			}
			if s := r.misfit(&t.Parts[i]); s != "" {
				return s
			}
		}
		return ""
	}
	for i := range t.Parts {
		if s := r.misfit(&t.Parts[i]); s != "" {
			return s
		}
	}
	return ""
}

func (r *reference) fits(t *api.Type) bool {
	t = r.comesTo(t)
	if t.Kind == api.TPtr {
		return r.comesTo(&t.Parts[0]).Kind == api.TRec
	}
	return t.Kind == api.TRec || t.Kind == api.TIface
}

func (r *reference) refuse() refusal {
	for i, d := range r.defs {
		for _, e := range r.defs[:i] {
			if d.Name == e.Name {
				return refusal{api.ErrTwice, d.At, d.Name}
			}
		}
	}
	for _, d := range r.defs {
		if !isRight(named(d.Name)) || !isRight(d.T) {
			return refusal{api.ErrArg, d.At, d.Name}
		}
	}
	for i, m := range r.methods {
		if why := r.refuseMethod(i); why != api.OK {
			return refusal{why, m.At, m.Name}
		}
	}
	if x := r.refuseTypes(r.missing, api.ErrNoName); x != (refusal{}) {
		return x
	}
	for _, d := range r.defs {
		if r.comesTo(&d.T) == nil {
			return refusal{api.ErrContract, d.At, d.Name}
		}
	}
	if len(r.nodes) > api.MaxTypes {
		return refusal{api.ErrTooMany, 0, ""}
	}
	return r.refuseTypes(r.misfit, api.ErrEmbed)
}

// refuseTypes asks wrong of each right side, and then of each signature.
func (r *reference) refuseTypes(wrong func(*api.Type) string, why api.Errno) refusal {
	for i, d := range r.defs {
		if name := wrong(&r.defs[i].T); name != "" {
			return refusal{why, d.At, name}
		}
	}
	for i, m := range r.methods {
		if name := wrong(&r.signs[i]); name != "" {
			return refusal{why, m.At, name}
		}
	}
	return refusal{}
}

func (r *reference) refuseMethod(i int) api.Errno {
	m := r.methods[i]
	if _, e := syntax.Code(m); e != api.OK || m.Owner == "" || m.Name == "" {
		return api.ErrArg
	}
	d := r.def(m.Owner)
	if d == nil || d.T.Kind != api.TRec {
		return api.ErrOwner
	}
	if slices.Contains(d.T.Names, m.Name) {
		return api.ErrTwice
	}
	for _, o := range r.methods[:i] {
		if o.Owner == m.Owner && o.Name == m.Name {
			return api.ErrTwice
		}
	}
	return api.OK
}

func newReference(defs []api.Def, methods []api.Code) *reference {
	r := &reference{defs: defs, methods: methods, owned: map[*api.Type]string{}}
	for _, m := range methods {
		sign := api.Type{Kind: api.TFn}
		for _, p := range m.Params {
			sign.Parts = append(sign.Parts, p.T)
		}
		sign.Parts = append(sign.Parts, m.Result)
		r.signs = append(r.signs, sign)
	}
	for i := range defs {
		r.lay(&defs[i].T)
	}
	for i, m := range methods {
		r.lay(&r.signs[i])
		if d := r.def(m.Owner); d != nil {
			r.owned[&d.T] = m.Owner
		}
	}
	return r
}

func (r *reference) number(t *api.Type) int { return slices.Index(r.nodes, r.comesTo(t)) }

func (r *reference) show() string {
	var l []string
	for _, t := range r.nodes {
		words := []string{kinds[t.Kind]}
		if s := r.owned[t]; s != "" {
			words = append(words, "of", s)
		}
		for i := range t.Parts {
			word := strconv.Itoa(r.number(&t.Parts[i]))
			if t.Kind == api.TRec || t.Kind == api.TIface {
				word = t.Names[i] + "=" + word
			}
			if t.Kind == api.TRec && t.Embeds[i] {
				word = "+" + word
			}
			words = append(words, word)
		}
		l = append(l, strings.Join(words, " "))
	}
	return strings.Join(l, "; ")
}

func (r *reference) showNames() string {
	var l []string
	for i, d := range r.defs {
		words := []string{d.Name + "=" + strconv.Itoa(r.number(&r.defs[i].T))}
		for j, m := range r.methods {
			if m.Owner == d.Name {
				words = append(words, d.Name+"."+m.Name+"="+strconv.Itoa(r.number(&r.signs[j])))
			}
		}
		slices.Sort(words[1:])
		l = append(l, strings.Join(words, " "))
	}
	slices.Sort(l)
	return strings.Join(l, " ")
}

// add is what Add must answer; what is taken is laid out.
func (r *reference) add(types []api.Type) ([]int, refusal) {
	for _, t := range types {
		if !isRight(t) {
			return nil, refusal{api.ErrArg, 0, ""}
		}
	}
	for i := range types {
		if name := r.missing(&types[i]); name != "" {
			return nil, refusal{api.ErrNoName, 0, name}
		}
	}
	if len(r.nodes)+syntax.Nodes(types...) > api.MaxTypes {
		return nil, refusal{api.ErrTooMany, 0, ""}
	}
	for i := range types {
		if name := r.misfit(&types[i]); name != "" {
			return nil, refusal{api.ErrEmbed, 0, name}
		}
	}
	for i := range types {
		r.lay(&types[i])
	}
	var l []int
	for i := range types {
		l = append(l, r.number(&types[i]))
	}
	return l, refusal{}
}

// maker makes sets by chance, the same ones each time.
type maker struct{ *rand.Rand }

func (m maker) seldom() bool { return m.Intn(120) == 0 }

func (m maker) pick(names string) string {
	l := strings.Fields(names)
	return l[m.Intn(len(l))]
}

func (m maker) name() string {
	if m.seldom() {
		return m.pick("X Y")
	}
	return m.pick("A B C D")
}

func (m maker) fields() []string {
	l := strings.Fields("a b c d")
	m.Shuffle(len(l), func(i, j int) { l[i], l[j] = l[j], l[i] })
	return l[:m.Intn(4)]
}

func (m maker) typ(room int) api.Type {
	kind := 1 + m.Intn(8)
	if room == 0 {
		kind = 1 + m.Intn(4)
	}
	t := api.Type{Kind: kind}
	switch kind {
	case api.TName:
		t.Name = m.name()
	case api.TPtr:
		t.Parts = append(t.Parts, m.typ(room-1))
	case api.TRec:
		t.Names = m.fields()
		for range t.Names {
			embedded := m.Intn(5) == 0
			part := m.typ(room - 1)
			if embedded && m.Intn(3) > 0 { // else hardly any set would be taken
				part = api.Type{Kind: api.TRec}
			}
			t.Embeds, t.Parts = append(t.Embeds, embedded), append(t.Parts, part)
		}
	case api.TFn:
		for range 1 + m.Intn(3) {
			t.Parts = append(t.Parts, m.typ(room-1))
		}
	case api.TIface:
		t.Names = m.fields()
		for range t.Names {
			t.Parts = append(t.Parts, api.Type{Kind: api.TFn, Parts: []api.Type{m.typ(room - 1)}})
		}
	}
	if m.Intn(300) == 0 {
		t.Name += "z"
	}
	return t
}

func (m maker) set() ([]api.Def, []api.Code) {
	names := strings.Fields("A B C D")
	m.Shuffle(len(names), func(i, j int) { names[i], names[j] = names[j], names[i] })
	var defs []api.Def
	for i, name := range names {
		if m.Intn(40) == 0 {
			name = names[0]
		}
		t := m.typ(2)
		if m.Intn(3) == 0 {
			t = named(m.name())
		}
		defs = append(defs, def(10+i, name, t))
	}
	var methods []api.Code
	for i := range m.Intn(3) {
		d := defs[m.Intn(len(defs))]
		if d.T.Kind != api.TRec && m.Intn(20) > 0 { // else hardly any set would be taken
			continue
		}
		if m.seldom() {
			d.Name = ""
		}
		c := method(30+i, d.Name, m.pick("a m n o p"), m.typ(1))
		for _, f := range m.fields() {
			c.Params = append(c.Params, api.Param{Name: f, T: m.typ(1)})
		}
		methods = append(methods, c)
	}
	if m.Intn(30) == 0 { // around MaxTypes nodes
		n := api.MaxTypes - len(newReference(defs, methods).nodes)
		defs = append(defs, def(9, "Big", record(n-3+m.Intn(4), integer())))
	}
	return defs, methods
}

// sets is how many sets are made by chance.
const sets = 20000

// TestReference: P4.1 to P4.5, sets made by chance against the chapter's words, and what is added to them.
func TestReference(t *testing.T) {
	m := maker{rand.New(rand.NewSource(4))}
	met, metAdd := map[api.Errno]int{}, map[api.Errno]int{}
	for range sets {
		defs, methods := m.set()
		r := newReference(defs, methods)
		want := r.refuse()
		g, err := graph.New(defs, methods...)
		if got := told(t, err); got != want || (g == nil) != (err != nil) {
			t.Fatalf("%v, not %v: %+v %+v", got, want, defs, methods)
		}
		met[want.why]++
		if err != nil {
			continue
		}
		shows(t, g, r.show(), r.showNames())
		for range 3 {
			metAdd[adds(t, m, g, r)]++
		}
		follows(t, g)
		if t.Failed() {
			t.Fatalf("%+v %+v", defs, methods)
		}
	}
	for _, why := range []api.Errno{api.OK, api.ErrTwice, api.ErrArg, api.ErrOwner, api.ErrNoName, api.ErrContract, api.ErrTooMany, api.ErrEmbed} {
		if met[why] < sets/400 {
			t.Error("hardly met:", why, met)
		}
	}
	for _, why := range []api.Errno{api.OK, api.ErrArg, api.ErrNoName, api.ErrTooMany, api.ErrEmbed} {
		if metAdd[why] < sets/400 {
			t.Error("hardly met:", why, metAdd)
		}
	}
}

// adds adds types made by chance to both, and answers why they are refused.
func adds(t *testing.T, m maker, g *graph.Graph, r *reference) api.Errno {
	t.Helper()
	var types []api.Type
	for range m.Intn(4) {
		types = append(types, m.typ(2))
	}
	if m.Intn(20) == 0 {
		types = append(types, record(api.MaxTypes-3, integer()))
	}
	before := g.Len()
	nodes, want := r.add(types)
	got, err := g.Add(types...)
	if said := told(t, err); said != want || !slices.Equal(got, nodes) {
		t.Errorf("Add(%+v): %v, %v, not %v, %v", types, got, said, nodes, want)
	}
	if err == nil {
		before += syntax.Nodes(types...)
	}
	if g.Len() != before {
		t.Error(g.Len(), before)
	}
	shows(t, g, r.show(), r.showNames())
	return want.why
}

// follows: P4.5, following Parts never leaves the nodes.
func follows(t *testing.T, g *graph.Graph) {
	t.Helper()
	for n := range g.Len() {
		for _, p := range g.Parts(n) {
			if p < 0 || p >= g.Len() {
				t.Error(n, p, g.Len())
			}
		}
	}
}

// TestOtherOrder: P4.6, another order of the definitions or of the methods is refused just if this one is; so is what is
// not contractive.
func TestOtherOrder(t *testing.T) {
	m := maker{rand.New(rand.NewSource(6))}
	for range sets / 4 {
		defs, methods := m.set()
		g, err := graph.New(defs, methods...)
		sum := 0
		for _, d := range defs {
			sum += syntax.Nodes(d.T)
		}
		for _, c := range methods {
			sum += 1 + syntax.Nodes(c.Result)
			for _, p := range c.Params {
				sum += syntax.Nodes(p.T)
			}
		}
		for range 3 {
			m.Shuffle(len(defs), func(i, j int) { defs[i], defs[j] = defs[j], defs[i] })
			m.Shuffle(len(methods), func(i, j int) { methods[i], methods[j] = methods[j], methods[i] })
			other, otherErr := graph.New(defs, methods...)
			if (err == nil) != (otherErr == nil) {
				t.Fatalf("%v and %v: %+v %+v", err, otherErr, defs, methods)
			}
			if told(t, err).why == api.ErrContract && told(t, otherErr).why != api.ErrContract {
				t.Fatalf("%v and %v: %+v %+v", err, otherErr, defs, methods)
			}
			if err == nil && (other.Len() != g.Len() || other.Len() != sum || !slices.Equal(other.Roots(), g.Roots())) {
				t.Fatalf("%d and %d nodes of %d: %+v %+v", g.Len(), other.Len(), sum, defs, methods)
			}
		}
	}
}
