package itab_test

import (
	"math/rand"
	"reflect"
	"slices"
	"strings"
	"testing"

	"coil/api"
	"coil/itab"
	"coil/member"
	"coil/subtype"
)

// reference is the chapter's words taken one by one: it looks each method up by itself.
func reference(r *subtype.Relation, class, iface int) (itab.Table, api.Errno) {
	below, why := r.Below(class, iface)
	label := strings.Fields(r.Label(iface))
	if why != api.OK || label[0] != "interface" {
		return itab.Table{}, api.ErrArg
	}
	if !below {
		return itab.Table{}, api.ErrType
	}
	x := itab.Table{Class: class, Iface: iface}
	for _, name := range label[1:] { // a label has the names in the order of their bytes
		m, _ := member.Lookup(r.Classes(), class, name)
		x.Rows = append(x.Rows, m)
	}
	return x, api.OK
}

// maker makes sets and questions by chance, the same ones each time.
type maker struct{ *rand.Rand }

func (m maker) one(words string) string {
	l := strings.Fields(words)
	return l[m.Intn(len(l))]
}

// record has some fields, some of them embedded.
func (m maker) record() api.Type {
	x := api.Type{Kind: api.TRec}
	for _, name := range strings.Fields("f e d c") {
		if m.Intn(3) == 0 {
			continue
		}
		embedded := m.Intn(4) > 0
		part := named(m.one("A B C D E I J K L T"))
		if m.Intn(3) == 0 && strings.Contains("A B C D E", part.Name) {
			part = pointer(part)
		}
		x.Names, x.Embeds, x.Parts = append(x.Names, name), append(x.Embeds, embedded), append(x.Parts, part)
	}
	if m.Intn(4) == 0 { // a field of a method's name
		x.Names, x.Embeds, x.Parts = append(x.Names, m.one("m n o")), append(x.Embeds, false), append(x.Parts, api.Type{Kind: api.TInt})
	}
	return x
}

func (m maker) iface(names string) api.Type {
	x := api.Type{Kind: api.TIface, Names: strings.Fields(names)}
	for range x.Names {
		x.Parts = append(x.Parts, function(m.result()))
	}
	return x
}

// result is nearly always the same, so that there are many classes below others.
func (m maker) result() api.Type {
	if m.Intn(8) == 0 {
		return named(m.one("A I T"))
	}
	return named("T")
}

// set is a relation over records with methods, and interfaces.
func (m maker) set(t *testing.T) *subtype.Relation {
	defs := []api.Def{def("I", m.iface("m")), def("J", m.iface("n m")), def("K", m.iface("o")), def("L", m.iface("o n m")), def("T", m.iface(""))}
	var methods []api.Code
	for _, owner := range strings.Fields("A B C D E") {
		d := def(owner, m.record())
		defs = append(defs, d)
		for _, name := range strings.Fields("o m n") {
			if !slices.Contains(d.T.Names, name) && m.Intn(3) == 0 {
				methods = append(methods, api.Code{Owner: owner, Name: name, Result: m.result()})
			}
		}
	}
	return built(t, []api.Type{pointer(named("A")), pointer(named("E"))}, defs, methods...)
}

// TestReference: P12.1 and P12.4, sets made by chance against the chapter's words.
func TestReference(t *testing.T) {
	m := maker{rand.New(rand.NewSource(12))}
	met := map[api.Errno]int{}
	paths := 0
	for range 400 {
		r := m.set(t)
		for class := -1; class <= r.Len(); class++ {
			for iface := range r.Len() {
				want, e := reference(r, class, iface)
				got, why := itab.Build(r, class, iface)
				if why != e || !itab.Same(got, want) || !slices.EqualFunc(got.Rows, want.Rows, func(a, b api.Member) bool { return show(a) == show(b) && a.Node == b.Node }) {
					t.Fatalf("%s\n%d < %d: %+v, %v, not %+v, %v", r.Text(), class, iface, got, why, want, e)
				}
				met[why]++
				for i, row := range got.Rows {
					paths += len(row.Path)
					if ok, _ := r.Below(row.Node, r.Children(iface)[i]); !ok {
						t.Fatalf("%s\n%d < %d: %+v isn't below", r.Text(), class, iface, row)
					}
				}
			}
		}
	}
	if met[api.OK] < 5000 || met[api.ErrType] < 5000 || met[api.ErrArg] < 5000 || paths < 1000 {
		t.Error("hardly met:", met, paths)
	}
}

// model is what a cache must keep: all that was asked for and answered since it was made or emptied, the last one last.
type model struct {
	*subtype.Relation
	most            int
	asked           [][2]int
	builds, lookups int
}

// held are the pairs of which a table is kept: of those that were asked for, without those that were asked for again, the
// last ones.
func (m *model) held() [][2]int {
	var l [][2]int
	for i := len(m.asked) - 1; i >= 0 && len(l) < m.most; i-- {
		if !slices.Contains(l, m.asked[i]) {
			l = append(l, m.asked[i])
		}
	}
	return l
}

// ask is what Get must say.
func (m *model) ask(p [2]int) (itab.Table, api.Errno) {
	x, why := reference(m.Relation, p[0], p[1])
	if why != api.OK {
		return itab.Table{}, why
	}
	if !slices.Contains(m.held(), p) {
		m.builds++
		m.lookups += len(x.Rows)
	}
	m.asked = append(m.asked, p)
	return x, api.OK
}

// play does something by chance with a cache and its model, and fails, unless they do the same.
func (m maker) play(t *testing.T, c *itab.Cache, o *model, sets []*subtype.Relation) {
	t.Helper()
	p := [2]int{m.Intn(o.Len()+2) - 1, m.Intn(o.Len()+2) - 1}
	if len(o.asked) > 0 && m.Intn(3) > 0 {
		p = o.asked[m.Intn(len(o.asked))]
	}
	switch n := m.Intn(200); {
	case n == 0:
		r := sets[m.Intn(len(sets))]
		*o = model{Relation: r, most: o.most}
		if why := c.Reset(r); why != api.OK {
			t.Fatal(why)
		}
	case n == 1:
		if why := c.Reset(nil); why != api.ErrArg {
			t.Fatal(why)
		}
	case n < 100:
		want, e := o.ask(p)
		got, why := c.Get(p[0], p[1])
		if why != e || !itab.Same(got, want) {
			t.Fatalf("%v: %+v, %v, not %+v, %v", p, got, why, want, e)
		}
		spoilTable(got)
	default:
		x, e := o.ask(p)
		method := m.Intn(5) - 1
		var want api.Member
		if e == api.OK && (method < 0 || method >= len(x.Rows)) {
			e = api.ErrRange
		}
		if e == api.OK {
			want = x.Rows[method]
		}
		got, why := c.Row(p[0], p[1], method)
		if why != e || !reflect.DeepEqual(got, want) && !itab.Same(itab.Table{Rows: []api.Member{got}}, itab.Table{Rows: []api.Member{want}}) {
			t.Fatalf("%v %d: %+v, %v, not %+v, %v", p, method, got, why, want, e)
		}
		spoil(got.Path, "spoilt")
	}
}

// TestCaches: P12.2, P12.3 and P12.4, caches of all sizes against what they must keep, whatever is asked.
func TestCaches(t *testing.T) {
	m := maker{rand.New(rand.NewSource(13))}
	full, again := 0, 0
	for i := range 160 {
		sets := []*subtype.Relation{m.set(t), m.set(t)}
		most := 1 + i%api.MaxTabs
		c := opened(t, sets[0], most)
		o := &model{Relation: sets[0], most: most}
		for range 600 {
			m.play(t, c, o, sets)
			if held := o.held(); !slices.Equal(c.Held(), held) || c.Len() != len(held) || c.Len() > most || c.Builds() != o.builds || c.Lookups() != o.lookups || c.Classes() != o.Classes() {
				t.Fatalf("%v, %d, %d, %d, not %v, %d, %d", c.Held(), c.Len(), c.Builds(), c.Lookups(), held, o.builds, o.lookups)
			}
			if c.Len() == most {
				full++
			}
			if c.Builds() > most {
				again++
			}
		}
	}
	if full < 10000 || again < 10000 {
		t.Error("hardly met:", full, again)
	}
}

// TestFew: P12.5, as long as no more different pairs are asked for than a cache keeps, each is built once.
func TestFew(t *testing.T) {
	m := maker{rand.New(rand.NewSource(14))}
	for i := range 160 {
		r := m.set(t)
		most := 1 + i%api.MaxTabs
		c := opened(t, r, most)
		pairs, rows := map[[2]int]struct{}{}, 0
		for range 200 {
			p := [2]int{m.Intn(r.Len()), m.Intn(r.Len())}
			if _, ok := pairs[p]; !ok && len(pairs) == most {
				continue
			}
			c.Row(p[0], p[1], m.Intn(3)-1)
			x, why := c.Get(p[0], p[1])
			if _, ok := pairs[p]; !ok && why == api.OK {
				pairs[p] = struct{}{}
				rows += len(x.Rows)
			}
			if c.Builds() != len(pairs) || c.Lookups() != rows || c.Len() != len(pairs) {
				t.Fatal(c.Builds(), c.Lookups(), c.Len(), len(pairs), rows)
			}
		}
	}
}
