package member_test

import (
	"strconv"
	"strings"
	"testing"

	"coil/api"
	"coil/canon"
	"coil/graph"
	"coil/member"
	"coil/parse"
	"coil/unfold"
)

// runs are the definitions of the chapter's runs.
const runs = "type A = {x int;}; method A.m() int {} type B = {embed a A; y int;}; type C = {embed a *A;}; type D = {embed b B; embed c C;}; " +
	"type E = {embed b B; embed a A;}; type R = {embed r *R; embed a A;}; type I = interface {m() int;}; type F = {embed i I; x int;}; "

// made are the classes of a text, with these types.
func made(t *testing.T, src string, types ...string) *canon.Classes {
	t.Helper()
	defs, methods, err := parse.Defs(src)
	if err != nil {
		t.Fatal(src, err)
	}
	g, err := graph.New(defs, methods...)
	if err != nil {
		t.Fatal(src, err)
	}
	for _, src := range types {
		if _, err := g.Add(typ(t, src)); err != nil {
			t.Fatal(src, err)
		}
	}
	return canon.New(g)
}

// built are the classes of definitions.
func built(t *testing.T, defs []api.Def, methods ...api.Code) *canon.Classes {
	t.Helper()
	g, err := graph.New(defs, methods...)
	if err != nil {
		t.Fatal(err)
	}
	return canon.New(g)
}

func typ(t *testing.T, src string) api.Type {
	t.Helper()
	x, err := parse.Type(src)
	if err != nil {
		t.Fatal(src, err)
	}
	return x
}

// at is the number of a type that c has.
func at(t *testing.T, c *canon.Classes, src string) int {
	t.Helper()
	ids, err := c.Ids(typ(t, src))
	if err != nil || ids[0] >= c.Len() {
		t.Fatal(src, ids, err)
	}
	return ids[0]
}

// show tells a member: what it is, what type it has, by which path.
func show(c *canon.Classes, m api.Member) string {
	s := map[int]string{api.MField: "field ", api.MMethod: "method ", api.MIface: "iface "}[m.Kind]
	if m.Owner != "" {
		s += m.Owner + "."
	}
	node, _ := c.Node(m.Node)
	s += m.Name + " " + unfold.Text(c.Graph(), node, 2)
	if len(m.Path) > 0 {
		s += " by " + strings.Join(m.Path, " ")
	}
	return s
}

// find tells what Lookup says.
func find(t *testing.T, c *canon.Classes, class int, name string) string {
	t.Helper()
	m, why := member.Lookup(c, class, name)
	switch why {
	case api.OK:
		if m.Name != name || (m.Owner != "") != (m.Kind == api.MMethod) {
			t.Errorf("%s: %+v", name, m)
		}
		return show(c, m)
	case api.ErrArg, api.ErrAmbiguous, api.ErrNoMember:
		if !isZero(m) {
			t.Errorf("%s: %+v beside %v", name, m, why)
		}
		return map[api.Errno]string{api.ErrArg: "arg", api.ErrAmbiguous: "ambiguous", api.ErrNoMember: "none"}[why]
	}
	return why.Error()
}

func isZero(m api.Member) bool {
	return len(m.Path) == 0 && m.Kind == 0 && m.Owner == "" && m.Name == "" && m.Node == 0
}

// finds fails, unless Lookup says that of a type's member: `TYPE : NAME`.
func finds(t *testing.T, c *canon.Classes, ask, want string) {
	t.Helper()
	src, name, _ := strings.Cut(ask, " : ")
	if got := find(t, c, at(t, c, src), name); got != want {
		t.Errorf("%s: %s, not %s", ask, got, want)
	}
}

// list tells members.
func list(c *canon.Classes, l []api.Member) string {
	var b strings.Builder
	for i, m := range l {
		if i > 0 {
			b.WriteString("; ")
		}
		b.WriteString(show(c, m))
	}
	return b.String()
}

// lists fails, unless Methods and All say these of a type.
func lists(t *testing.T, c *canon.Classes, src, methods, all string) {
	t.Helper()
	class := at(t, c, src)
	if got := list(c, member.Methods(c, class)); got != methods {
		t.Errorf("Methods(%s): %s, not %s", src, got, methods)
	}
	if got := list(c, member.All(c, class)); got != all {
		t.Errorf("All(%s): %s, not %s", src, got, all)
	}
}

func pointer(t api.Type) api.Type { return api.Type{Kind: api.TPtr, Parts: []api.Type{t}} }

func named(name string) api.Type { return api.Type{Kind: api.TName, Name: name} }

// field is a field of a record.
type field struct {
	name     string
	embedded bool
	t        api.Type
}

func record(fields ...field) api.Type {
	t := api.Type{Kind: api.TRec}
	for _, f := range fields {
		t.Names = append(t.Names, f.name)
		t.Embeds = append(t.Embeds, f.embedded)
		t.Parts = append(t.Parts, f.t)
	}
	return t
}

func def(name string, t api.Type) api.Def { return api.Def{Name: name, T: t} }

func key(name string, n int) string { return name + strconv.Itoa(10000+n) }
