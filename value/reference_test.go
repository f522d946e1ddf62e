package value_test

import (
	"fmt"
	"math/rand"
	"regexp"
	"slices"
	"strings"
	"testing"

	"coil/api"
	"coil/canon"
	"coil/lex"
	"coil/value"
)

// reference is the chapter's words taken one by one. What a class is, it reads from its label.
type reference struct{ *canon.Classes }

// words are the kind of a class, and the names of its fields.
func (r reference) words(class int) (kind string, names []string) {
	if class < 0 || class >= r.Len() {
		return "none", nil
	}
	l := strings.Fields(r.Label(class))
	if l[0] == "record" && len(l) > 2 && l[1] == "of" && l[2][0] >= 'A' && l[2][0] <= 'Z' {
		l = slices.Delete(l, 1, 3)
	}
	for _, name := range l[1:] {
		names = append(names, strings.TrimPrefix(name, "+"))
	}
	return l[0], names
}

var (
	nameForm = regexp.MustCompile(`^[a-z][a-zA-Z0-9_]{0,31}$`)
	textForm = regexp.MustCompile(`^[\n -~]*$`)
)

func (r reference) right(v api.Value) bool {
	kind, names := r.words(v.Class)
	plain, single := len(v.Parts) == 0, v.N == 0 && v.S == ""
	switch v.Kind {
	case 1:
		return kind == "int" && plain && v.S == ""
	case 2:
		return kind == "bool" && plain && v.S == "" && slices.Contains([]int{0, 1}, v.N)
	case 3:
		return kind == "text" && plain && v.N == 0 && len(v.S) <= 4096 && textForm.MatchString(v.S)
	case 4:
		return kind == "record" && single && len(v.Parts) == len(names) && !slices.ContainsFunc(v.Parts, func(p api.Value) bool { return !r.right(p) })
	case 5:
		return kind == "*" && single && (plain || len(v.Parts) == 1 && v.Parts[0].Kind == 4 && v.Parts[0].Class == r.Children(v.Class)[0] && r.right(v.Parts[0]))
	case 6:
		return kind == "fn" && plain && v.N == 0 && nameForm.MatchString(v.S) && !slices.Contains(lex.Words(), v.S)
	}
	return false
}

// text is that of a right value, however long it is.
func (r reference) text(v api.Value) string {
	switch v.Kind {
	case 1:
		return fmt.Sprint(v.N)
	case 2:
		return fmt.Sprint(v.N != 0)
	case 3:
		return v.S
	case 5:
		if len(v.Parts) == 0 {
			return "nil"
		}
		return "&" + r.text(v.Parts[0])
	case 6:
		return "fn " + v.S
	}
	_, names := r.words(v.Class)
	var l []string
	for i, p := range v.Parts {
		l = append(l, names[i]+": "+r.text(p))
	}
	return "{" + strings.Join(l, ", ") + "}"
}

func (r reference) field(v api.Value, name string) (api.Value, api.Errno) {
	switch {
	case !r.right(v):
		return api.Value{}, api.ErrArg
	case v.Kind == 5 && len(v.Parts) == 0:
		return api.Value{}, api.ErrNil
	case v.Kind == 5:
		return r.field(v.Parts[0], name)
	case v.Kind != 4:
		return api.Value{}, api.ErrField
	}
	_, names := r.words(v.Class)
	if i := slices.Index(names, name); i >= 0 {
		return v.Parts[i], api.OK
	}
	return api.Value{}, api.ErrField
}

func (r reference) walk(v api.Value, path []string) (api.Value, api.Errno) {
	if !r.right(v) {
		return api.Value{}, api.ErrArg
	}
	for _, name := range path {
		next, why := r.field(v, name)
		if why != api.OK {
			return api.Value{}, why
		}
		v = next
	}
	return v, api.OK
}

// plain is all of a value, nil and empty lists alike.
func plain(v api.Value) string {
	s := fmt.Sprintf("%d %d %d %q(", v.Kind, v.Class, v.N, v.S)
	for _, p := range v.Parts {
		s += plain(p) + ","
	}
	return s + ")"
}

// maker makes values by chance, the same ones each time; some are parts of several.
type maker struct {
	*rand.Rand
	world
	kinds map[string][]int // the classes by their kinds
	made  []api.Value
}

func newMaker(w world, seed int64) *maker {
	m := &maker{Rand: rand.New(rand.NewSource(seed)), world: w, kinds: map[string][]int{}}
	for class := range w.Len() {
		kind, _ := reference{w.Classes}.words(class)
		m.kinds[kind] = append(m.kinds[kind], class)
	}
	return m
}

func (m *maker) of(kind string) int { return m.kinds[kind][m.Intn(len(m.kinds[kind]))] }

func one[T any](m *maker, l ...T) T { return l[m.Intn(len(l))] }

// value is a right one, of a class by chance.
func (m *maker) value(room int) api.Value {
	if len(m.made) > 0 && m.Intn(6) == 0 {
		return one(m, m.made...)
	}
	v := m.fresh(room)
	if len(plain(v)) < 9000 {
		m.made = append(m.made, v)
	}
	if len(m.made) > 12 {
		m.made = m.made[6:]
	}
	return v
}

func (m *maker) fresh(room int) api.Value {
	k := m.Intn(10)
	if room == 0 {
		k = m.Intn(5)
	}
	switch k {
	case 0:
		return api.Value{Kind: api.VInt, Class: m.of("int"), N: one(m, 0, -1, 7, 123456, -1<<63, 1<<63-1)}
	case 1:
		return api.Value{Kind: api.VBool, Class: m.of("bool"), N: m.Intn(2)}
	case 2:
		return api.Value{Kind: api.VText, Class: m.of("text"), S: one(m, "", "a", "x: ", "{}", "\n", "~ ", strings.Repeat("b", m.Intn(4097)), strings.Repeat("c", 4080+m.Intn(17)))}
	case 3:
		return api.Value{Kind: api.VFn, Class: m.of("fn"), S: one(m, "f", "gG_0", "lets", strings.Repeat("z", 32))}
	case 4:
		return api.Value{Kind: api.VPtr, Class: m.of("*")}
	case 5:
		return m.pointer(room)
	}
	return m.record(m.of("record"), room)
}

func (m *maker) record(class, room int) api.Value {
	v := api.Value{Kind: api.VRec, Class: class}
	for range m.Children(class) {
		v.Parts = append(v.Parts, m.value(room-1))
	}
	return v
}

// pointer is one to a record, if it is of a class that can have it.
func (m *maker) pointer(room int) api.Value {
	v := api.Value{Kind: api.VPtr, Class: m.of("*")}
	to := m.Children(v.Class)[0]
	if kind, _ := (reference{m.Classes}).words(to); kind == "record" {
		v.Parts = []api.Value{m.record(to, room-1)}
	}
	return v
}

// places are those of all values in v.
func places(v *api.Value) []*api.Value {
	l := []*api.Value{v}
	for i := range v.Parts {
		l = append(l, places(&v.Parts[i])...)
	}
	return l
}

// spoilt is v with one thing changed somewhere in it: most of such are wrong.
func (m *maker) spoilt(v api.Value) api.Value {
	v = clone(v)
	p := one(m, places(&v)...)
	switch m.Intn(8) {
	case 0:
		p.Kind = m.Intn(9) - 1
	case 1:
		p.Class = m.Intn(m.Len()+2) - 1
	case 2:
		p.N = one(m, 0, 1, 2, -1)
	case 3:
		p.S = one(m, "", "a", "A", "let", "a b", "\t", "a\n", "\x7f", "~", strings.Repeat("a", 33), strings.Repeat("a", 4096), strings.Repeat("a", 4097))
	case 4:
		p.Parts = append(p.Parts, m.value(1))
	case 5:
		p.Parts = p.Parts[:max(0, len(p.Parts)-1)]
	case 6:
		p.Parts = []api.Value{}
	case 7:
		*p = m.value(1)
	}
	return v
}

// path is one that may lead somewhere in v.
func (m *maker) path(v api.Value) []string {
	var l []string
	r := reference{m.Classes}
	for m.Intn(6) > 0 {
		if v.Kind == api.VPtr && len(v.Parts) > 0 {
			v = v.Parts[0]
		}
		_, names := r.words(v.Class)
		if len(names) == 0 && m.Intn(2) == 0 {
			return l
		}
		if len(names) == 0 || m.Intn(16) == 0 {
			return append(l, one(m, "x", "next", "a", "", "l", "m"))
		}
		name := one(m, names...)
		l = append(l, name)
		v, _ = r.field(v, name)
	}
	return l
}

// compare fails, unless the calls say of v what the chapter's words say; it counts what they say.
func (r reference) compare(t *testing.T, m *maker, v api.Value, met map[api.Errno]int) {
	t.Helper()
	right := r.right(v)
	if value.Right(r.Classes, v) != right {
		t.Fatalf("Right(%s): not %v", plain(v), right)
	}
	want, why := "", api.ErrArg
	if right {
		want, why = r.text(v), api.OK
	}
	if len(want) > api.MaxString {
		want, why = "", api.ErrBig
	}
	met[why]++
	if s, e := value.Text(r.Classes, v); s != want || e != why {
		t.Fatalf("Text(%s): %q, %v, not %q, %v", plain(v), s, e, want, why)
	}
	for range 3 {
		path := m.path(v)
		want, why := r.walk(v, path)
		if len(path) > 0 {
			met[why+100]++
		}
		if x, e := value.Walk(r.Classes, v, path...); plain(x) != plain(want) || e != why {
			t.Fatalf("Walk(%s, %q): %s, %v, not %s, %v", plain(v), path, plain(x), e, plain(want), why)
		}
		name := append(path, "x")[0]
		want, why = r.field(v, name)
		if x, e := value.Field(r.Classes, v, name); plain(x) != plain(want) || e != why {
			t.Fatalf("Field(%s, %q): %s, %v, not %s, %v", plain(v), name, plain(x), e, plain(want), why)
		}
	}
}

// TestReference: P10.1 to P10.4, values made by chance, right and spoilt ones, against the chapter's words.
func TestReference(t *testing.T) {
	w := all(t)
	m, r := newMaker(w, 10), reference{w.Classes}
	met, alike, unlike := map[api.Errno]int{}, 0, 0
	for range 12000 {
		v := m.value(1 + m.Intn(5))
		u := m.spoilt(v)
		r.compare(t, m, v, met)
		r.compare(t, m, u, met)
		for _, x := range []api.Value{clone(v), u, m.value(1)} {
			want := plain(x) == plain(v)
			if want {
				alike++
			} else {
				unlike++
			}
			same(t, v, x, want)
		}
	}
	if met[api.OK] < 10000 || met[api.ErrBig] < 300 || met[api.ErrArg] < 5000 || alike < 13000 || unlike < 10000 ||
		met[100+api.OK] < 8000 || met[100+api.ErrNil] < 1000 || met[100+api.ErrField] < 5000 || met[100+api.ErrArg] < 5000 {
		t.Error("hardly met:", met, alike, unlike)
	}
}
