package subtype_test

import (
	"strconv"
	"strings"
	"testing"

	"coil/api"
	"coil/canon"
	"coil/graph"
	"coil/parse"
	"coil/subtype"
)

// runs are the definitions of the chapter's runs.
const runs = "type I = interface {m() int;}; type J = interface {m() int; n() J;}; type K = interface {n() I; m() int;}; type A = {x int;}; method A.m() int {} method A.n() *A {} "

// made are the classes of a text, with these types.
func made(t *testing.T, src string, types ...string) *canon.Classes {
	t.Helper()
	defs, methods, err := parse.Defs(src)
	if err != nil {
		t.Fatal(src, err)
	}
	list := make([]api.Type, len(types))
	for i, src := range types {
		list[i] = typ(t, src)
	}
	c, _, err := built(t, defs, methods...).With(list...)
	if err != nil {
		t.Fatal(src, err)
	}
	return c
}

// built are the classes of definitions.
func built(t *testing.T, defs []api.Def, methods ...api.Code) *canon.Classes {
	t.Helper()
	g, err := graph.New(defs, methods...)
	if err != nil {
		t.Fatal(err)
	}
	return canon.New(g)
}

func typ(t *testing.T, src string) api.Type {
	t.Helper()
	x, err := parse.Type(src)
	if err != nil {
		t.Fatal(src, err)
	}
	return x
}

// question is a pair of types, `TYPE < TYPE`, over classes that have them both.
type question struct {
	*subtype.Relation
	a, b   int
	ta, tb api.Type
}

// asking lays the pairs' types out beside the definitions, and answers a question of each.
func asking(t *testing.T, src string, pairs ...string) []question {
	t.Helper()
	var types []string
	for _, p := range pairs {
		a, b, _ := strings.Cut(p, " < ")
		types = append(types, a, b)
	}
	r := subtype.New(made(t, src, types...))
	list := make([]question, len(pairs))
	for i := range list {
		ta, tb := typ(t, types[2*i]), typ(t, types[2*i+1])
		ids, err := r.Ids(ta, tb)
		if err != nil || max(ids[0], ids[1]) >= r.Len() {
			t.Fatal(pairs[i], ids, err)
		}
		list[i] = question{r, ids[0], ids[1], ta, tb}
	}
	return list
}

// below is what all calls say of a question; it fails, unless they say the same.
func (q question) below(t *testing.T) bool {
	t.Helper()
	ok, why := q.Below(q.a, q.b)
	if why != api.OK {
		t.Error(why)
	}
	if all := q.All(); all[q.a][q.b] != ok {
		t.Error("All", !ok)
	}
	if way, not := q.Why(q.a, q.b); not == ok || ok && len(way) > 0 {
		t.Error("Why", way, not)
	}
	if got, err := subtype.Below(q.Classes(), q.ta, q.tb); got != ok || err != nil {
		t.Error("the func Below", got, err)
	}
	return ok
}

// holds fails, unless each pair is below.
func holds(t *testing.T, src string, pairs ...string) { t.Helper(); says(t, true, src, pairs) }

// fails fails, unless no pair is below.
func fails(t *testing.T, src string, pairs ...string) { t.Helper(); says(t, false, src, pairs) }

func says(t *testing.T, want bool, src string, pairs []string) {
	t.Helper()
	for i, q := range asking(t, src, pairs...) {
		if got := q.below(t); got != want {
			t.Errorf("%s: %s: %v", src, pairs[i], got)
		}
	}
	for _, p := range pairs { // alone, too: no other question has gone ahead
		q := asking(t, src, p)[0]
		if got, _ := q.Below(q.a, q.b); got != want {
			t.Errorf("%s: %s alone: %v", src, p, got)
		}
	}
}

// way tells the steps of a way: each one's name, if it has one, and its number.
func way(steps []api.Step) string {
	var words []string
	for _, s := range steps {
		words = append(words, s.Name+strconv.Itoa(s.N))
	}
	return strings.Join(words, " ")
}

// whys fails, unless Why says that of each pair: `TYPE < TYPE`, and the way.
func whys(t *testing.T, src string, pairs ...[2]string) {
	t.Helper()
	for _, p := range pairs {
		q := asking(t, src, p[0])[0]
		if steps, ok := q.Why(q.a, q.b); way(steps) != p[1] || !ok {
			t.Errorf("%s: %s: %s, %v, not %s", src, p[0], way(steps), ok, p[1])
		}
		q.below(t)
	}
}

// rules fails, unless Rule says these premises of the pair, which are pairs like it.
func rules(t *testing.T, src, pair string, premises ...string) {
	t.Helper()
	list := asking(t, src, append([]string{pair}, premises...)...)
	q := list[0]
	got, ok := q.Rule(q.a, q.b)
	if len(got) != len(premises) || !ok {
		t.Errorf("%s: %s: %v, %v", src, pair, got, ok)
		return
	}
	for i, p := range list[1:] {
		if got[i] != [2]int{p.a, p.b} {
			t.Errorf("%s: %s: %v, not %s at %d", src, pair, got, premises[i], i)
		}
	}
}

// noRule fails, unless none of the pairs is a conclusion.
func noRule(t *testing.T, src string, pairs ...string) {
	t.Helper()
	for i, q := range asking(t, src, pairs...) {
		if got, ok := q.Rule(q.a, q.b); len(got) != 0 || ok {
			t.Errorf("%s: %s: %v, %v", src, pairs[i], got, ok)
		}
		if steps, ok := q.Why(q.a, q.b); len(steps) != 0 || !ok {
			t.Errorf("%s: %s: %v, %v", src, pairs[i], steps, ok)
		}
		if q.below(t) {
			t.Errorf("%s: %s is below", src, pairs[i])
		}
	}
}

func pointer(t api.Type) api.Type { return api.Type{Kind: api.TPtr, Parts: []api.Type{t}} }

func named(name string) api.Type { return api.Type{Kind: api.TName, Name: name} }

func def(name string, t api.Type) api.Def { return api.Def{Name: name, T: t} }

func key(name string, n int) string { return name + strconv.Itoa(10000+n) }
