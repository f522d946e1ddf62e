package session_test

import (
	"errors"
	"slices"
	"strconv"
	"strings"
	"testing"

	"coil/api"
	"coil/canon"
	"coil/check"
	"coil/graph"
	"coil/interp"
	"coil/lex"
	"coil/lower"
	"coil/machine"
	"coil/member"
	"coil/parse"
	"coil/session"
	"coil/subtype"
	"coil/unfold"
)

// reference does lines by the chapter's words. What go has run it runs again from the beginning.
type reference struct {
	graph *graph.Graph
	code  *lower.Code
	fuels []int
}

// wordsOf are a line's words, and of each what stands behind the byte 32 that ends it.
func wordsOf(line string) (words, texts []string) {
	for i := 0; i < len(line); {
		n := i
		for n < len(line) && line[n] != 9 && line[n] != 13 && line[n] != 32 {
			n++
		}
		if n == i {
			i++
			continue
		}
		words = append(words, line[i:n])
		text := ""
		if n < len(line) && line[n] == 32 {
			text = line[n+1:]
		}
		texts = append(texts, text)
		i = n
	}
	return words, texts
}

func (r *reference) do(line string) string {
	words, texts := wordsOf(line)
	switch {
	case len(line) > 65536:
		return "error 2"
	case len(words) == 0 || words[0][0] == '#':
		return ""
	}
	said, err := r.command(words, texts)
	if err == nil {
		return "ok" + said
	}
	var e api.Errno
	errors.As(err, &e)
	told := "error " + strconv.Itoa(int(e))
	switch err := err.(type) {
	case *lex.Refusal:
		return told + " at " + strconv.Itoa(err.At)
	case *graph.Refusal:
		return told + " at " + strconv.Itoa(err.At)
	case *check.Refusal:
		return told + " at " + strconv.Itoa(err.At)
	}
	return told
}

func (r *reference) command(words, texts []string) (string, error) {
	types := []string{texts[0]}
	switch words[0] {
	case "defs":
		return r.defs(texts[0])
	case "program":
		return r.program(texts[0])
	case "run", "go":
		if len(words) != 2 || !isNumber(words[1]) {
			return "", api.ErrLine
		}
		return r.run(words[0], words[1])
	case "classes", "counts", "sites", "casts":
		if len(words) != 1 {
			return "", api.ErrLine
		}
		return r.tell(words[0])
	case "find":
		if len(words) == 1 {
			return "", api.ErrLine
		}
		types = []string{texts[1]}
	case "ids", "below", "why", "differ", "table":
		bar := strings.Index(texts[0], "|")
		if bar < 0 {
			return "", api.ErrLine
		}
		types = []string{texts[0][:bar], texts[0][bar+1:]}
	case "id", "label", "methods":
	default:
		return "", api.ErrLine
	}
	return r.ask(words, types)
}

func isNumber(word string) bool {
	digits := strings.TrimPrefix(word, "-")
	if word == "0" {
		return true
	}
	n, err := strconv.ParseInt(word, 10, 64)
	return err == nil && digits[0] >= '1' && digits[0] <= '9' && n != 0
}

func (r *reference) defs(text string) (string, error) {
	defs, methods, err := parse.Defs(text)
	if err != nil {
		return "", err
	}
	g, err := graph.New(defs, methods...)
	if err != nil {
		return "", err
	}
	*r = reference{graph: g}
	return " " + strconv.Itoa(canon.New(g).Len()), nil
}

func (r *reference) program(text string) (string, error) {
	p, err := parse.Program(text)
	if err != nil {
		return "", err
	}
	checked, err := check.Program(p)
	if err != nil {
		return "", err
	}
	code, _ := lower.Program(checked)
	g, _ := graph.New(p.Defs, p.Methods...)
	*r = reference{graph: g, code: code}
	return " " + strconv.Itoa(checked.Classes().Len()), nil
}

func (r *reference) run(word, number string) (string, error) {
	if r.code == nil {
		return "", api.ErrNone
	}
	fuel, _ := strconv.Atoi(number)
	o := interp.Run(r.code.Checked(), fuel)
	if word == "go" {
		r.fuels = append(r.fuels, fuel)
		l, _ := machine.Runs(r.code, 16, r.fuels...)
		o = l[len(l)-1]
	}
	if o.Why == 1 || o.Why == 4 {
		return "", o.Why
	}
	said := spaced(int(o.Why), o.Steps, len(o.Out))
	if o.Why == 0 {
		said += " " + strings.Join(strings.Split(o.Value, "\n"), `\n`)
	}
	return said, nil
}

func spaced(numbers ...int) string {
	said := ""
	for _, n := range numbers {
		said += " " + strconv.Itoa(n)
	}
	return said
}

func (r *reference) tell(word string) (string, error) {
	switch {
	case word == "classes" && r.graph != nil:
		return spaced(canon.New(r.graph).Len()), nil
	case r.code == nil:
		return "", api.ErrNone
	case word == "counts":
		_, n := machine.Runs(r.code, 16, r.fuels...)
		return spaced(n.Builds, n.Lookups, n.Calls, n.Pairs), nil
	case word == "casts":
		return spaced(twoOf(r.code.Checked().Casts())...), nil
	}
	said := ""
	for _, s := range r.code.Sites() {
		said += " " + strconv.Itoa(s.Iface) + ":" + strconv.Itoa(s.Method)
	}
	return said, nil
}

func twoOf(a, b int) []int { return []int{a, b} }

func (r *reference) ask(words, texts []string) (string, error) {
	if r.graph == nil {
		return "", api.ErrNone
	}
	var types []api.Type
	for _, text := range texts {
		t, err := parse.Type(text)
		if err != nil {
			return "", err
		}
		types = append(types, t)
	}
	g := r.graph.Copy()
	nodes, err := g.Add(types...)
	if err != nil {
		return "", err
	}
	c := canon.New(g)
	var ids []int
	for _, n := range nodes {
		id, _ := c.Of(n)
		ids = append(ids, id)
	}
	switch words[0] {
	case "id", "ids":
		return spaced(ids...), nil
	case "differ":
		path, ok := unfold.Differ(g, nodes[0], nodes[1])
		return way(path, ok, "same"), nil
	case "why":
		path, ok := subtype.New(c).Why(ids[0], ids[1])
		return way(path, ok, "below"), nil
	case "below":
		ok, _ := subtype.New(c).Below(ids[0], ids[1])
		return map[bool]string{true: " yes", false: " no"}[ok], nil
	case "label":
		return " " + unfold.Label(g, nodes[0]), nil
	case "methods":
		return listed(member.All(c, ids[0])), nil
	case "find":
		return found(member.Lookup(c, ids[0], words[1]))
	}
	return tabled(c, g, nodes[1], ids)
}

func way(path []api.Step, ok bool, none string) string {
	switch {
	case !ok:
		return " " + none
	case len(path) == 0:
		return " at once"
	}
	said := ""
	for _, s := range path {
		said += strings.TrimSuffix(" "+strconv.Itoa(s.N)+":"+s.Name, ":")
	}
	return said
}

func listed(all []api.Member) string {
	said := ""
	for _, m := range all {
		if m.Kind != api.MField {
			said += " " + m.Name
		}
	}
	return said
}

func found(m api.Member, why api.Errno) (string, error) {
	if why != 0 {
		return "", why
	}
	return strings.Join(append([]string{"", map[int]string{api.MField: "field", api.MMethod: "method " + m.Owner, api.MIface: "iface"}[m.Kind]}, m.Path...), " "), nil
}

func tabled(c *canon.Classes, g *graph.Graph, node int, ids []int) (string, error) {
	if g.Kind(node) != api.TIface {
		return "", api.ErrArg
	}
	if ok, _ := subtype.New(c).Below(ids[0], ids[1]); !ok {
		return "", api.ErrType
	}
	said := ""
	for _, name := range slices.Sorted(slices.Values(g.Names(node))) {
		m, _ := member.Lookup(c, ids[0], name)
		said += " " + name + ":" + map[bool]string{true: m.Owner, false: "-"}[m.Kind == api.MMethod]
	}
	return said, nil
}

// compared are a session and what it must answer; kinds counts its answers.
type compared struct {
	*session.Session
	reference
	kinds map[string]int
}

// kindOf is a line's first word, and how its answer begins.
func kindOf(line, answer string) string {
	words, _ := wordsOf(line)
	if len(words) == 0 || words[0][0] == '#' || strings.HasPrefix(answer, "error 6") {
		return answer
	}
	if begin, _, ok := strings.Cut(answer, " at "); ok && begin != "ok" {
		return words[0] + " " + begin
	}
	fields := strings.Fields(answer + " . .")[:2]
	if fields[0] == "ok" && fields[1] != "below" && fields[1] != "same" && fields[1] != "yes" && fields[1] != "no" && words[0] != "run" && words[0] != "go" {
		return words[0] + " ok"
	}
	return words[0] + " " + strings.Join(fields, " ")
}

func (c *compared) line(t *testing.T, line string) {
	t.Helper()
	got, want := c.Do(line), c.do(line)
	if got != want {
		t.Fatalf("%q: %q, not %q", line, got, want)
	}
	c.kinds[kindOf(line, got)]++
}

// met fails, unless each of these kinds was met that often.
func (c *compared) met(t *testing.T, often int, kinds ...string) {
	t.Helper()
	for _, k := range kinds {
		if c.kinds[k] < often {
			t.Error("hardly met:", k, c.kinds[k])
		}
	}
}

// TestQuestions: P15.1 and P15.3, sets and questions made by chance, right and wrong.
func TestQuestions(t *testing.T) {
	m := newMaker(15)
	c := &compared{session.New(), reference{}, map[string]int{}}
	for range 250 {
		c.line(t, one(m, "defs ", "defs ", "defs ", "defs ", "defs\t", "defs  ", "defs int ", "defs type A = Z;")+m.set())
		for range 40 {
			c.line(t, m.question())
		}
	}
	c.met(t, 20, "", "error 60", "error 61", "defs ok", "defs error 13", "defs error 20", "id ok", "id error 14", "id error 21", "ids ok", "below ok yes", "below ok no", "why ok", "why ok below", "differ ok", "differ ok same", "label ok", "methods ok", "find ok", "find error 30", "table ok", "table error 1", "table error 40")
	c.met(t, 5, "find error 31", "find error 13", "find error 20", "label error 20")
}

// TestPrograms: P15.1, P15.3 and P15.4, programs made by chance, run in turns by both machines, with counts in between.
func TestPrograms(t *testing.T) {
	m := newMaker(16)
	c := &compared{session.New(), reference{}, map[string]int{}}
	for range 250 {
		c.line(t, "program "+m.program())
		for range 12 {
			fuel := strconv.Itoa(one(m, m.Intn(10), m.Intn(60), m.Intn(1500), 3000, 3000, -1-m.Intn(5)))
			c.line(t, one(m, "run ", "go ", "go ", "run\t", "go\t")+fuel)
			c.line(t, one(m, "counts", "counts", "sites", "casts", "classes", "program ?", "program main int { return x; }", "defs ?", "defs type A = A;", "go x", m.question()))
		}
	}
	c.met(t, 20, "program ok", "program error 10", "program error 21", "run ok 0", "go ok 0", "go ok 50", "run ok 50", "go ok 51", "go ok 52", "go ok 53", "run ok 51", "run ok 52", "run ok 53", "go error 4", "run error 4", "counts ok", "sites ok", "casts ok")
	c.met(t, 10, "go ok 54", "run ok 54")
}
