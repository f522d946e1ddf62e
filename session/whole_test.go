package session_test

import (
	"slices"
	"strings"
	"testing"

	"coil/session"
)

// taken is a session with a set by chance, and types that it takes.
func taken(t *testing.T, m *maker, n int) (*session.Session, []string) {
	t.Helper()
	for {
		s := session.New()
		if !strings.HasPrefix(s.Do("defs "+m.set()), "ok") {
			continue
		}
		types := []string{"I", "J", "K", "A", "B", "interface {}"}
		for len(types) < n {
			if typ := m.typ(m.Intn(3)); strings.HasPrefix(s.Do("id "+typ), "ok") {
				types = append(types, typ)
			}
		}
		return s, types
	}
}

// TestGreatest: C1, pairs that come back to themselves are below, unless something speaks against them.
func TestGreatest(t *testing.T) {
	s := opened(t, "defs type X = interface {m() X;}; type Y = interface {m() Y; n() int;}; type Z = interface {m() Z; n() bool;}; type U = interface {m(U) int;}; type V = interface {m(V) int; n() int;}; type A = {next *A;}; method A.m() A {} method A.n() int {} type L = {v X; next *L;}; type M = {next *M; v Y;}; type W = {v X; next *{v Y; next *W;};};")
	for _, x := range []play{{"Y | X", "yes"}, {"X | Y", "no"}, {"Z | X", "yes"}, {"Y | Z", "no"}, {"A | Y", "yes"}, {"A | Z", "no"}, {"*A | X", "yes"}, {"V | U", "no"}, {"U | U", "yes"}, {"M | L", "yes"}, {"L | M", "no"}, {"W | L", "yes"}, {"L | W", "no"}, {"M | W", "yes"}, {"W | M", "no"}, {"fn(L) M | fn(M) L", "yes"}, {"fn(M) M | fn(L) L", "no"}, {"interface {m() {v interface {};};} | X", "no"}, {"interface {m() Y;} | X", "yes"}, {"interface {m() interface {m() Y;};} | X", "yes"}} {
		plays(t, s, play{"below " + x[0], "ok " + x[1]})
	}
}

// TestTrees: C2, two types have one number just if they don't differ.
func TestTrees(t *testing.T) {
	m := newMaker(20)
	same := 0
	for range 20 {
		s, types := taken(t, m, 16)
		for _, a := range types {
			for _, b := range types {
				ids := strings.Fields(s.Do("ids " + a + "|" + b))
				answer := s.Do("differ " + a + "|" + b)
				if (ids[1] == ids[2]) != (answer == "ok same") {
					t.Fatal(a, b, ids, answer)
				}
				if ids[1] == ids[2] && a != b {
					same++
				}
			}
		}
	}
	if same < 50 {
		t.Error("hardly met", same)
	}
}

// TestOrderOfItems: C3, numbers of what definitions lead to, and all that is said of them, hang on the set alone.
func TestOrderOfItems(t *testing.T) {
	m := newMaker(21)
	for range 24 {
		items := m.items()
		s := session.New()
		first := s.Do("defs " + strings.Join(items, " "))
		if !strings.HasPrefix(first, "ok") {
			continue
		}
		for range 3 {
			m.Shuffle(len(items), func(i, j int) { items[i], items[j] = items[j], items[i] })
			other := session.New()
			plays(t, other, play{"id text", "error 61"}, play{"defs " + strings.Join(items, "\n//\n"), first})
			for _, a := range strings.Fields("A B C D I J K P F N") {
				for _, line := range []string{"id " + a, "id *" + a, "label " + a, "methods " + a, "find m " + a, "find x " + a, "table " + a + " | I", "below " + a + " | J", "why " + a + " | I", "differ " + a + " | B"} {
					other.Do(m.question())
					plays(t, other, play{line, s.Do(line)})
				}
			}
		}
	}
}

// TestOrder: C9, below is reflexive and transitive, and what is below one another has one number; why says the same.
func TestOrder(t *testing.T) {
	m := newMaker(22)
	count := 0
	for range 20 {
		s, types := taken(t, m, 14)
		below := map[[2]string]bool{}
		for _, a := range types {
			for _, b := range types {
				below[[2]string{a, b}] = s.Do("below "+a+"|"+b) == "ok yes"
				if why := s.Do("why " + a + "|" + b); (why == "ok below") != below[[2]string{a, b}] {
					t.Fatal(a, b, why)
				}
			}
		}
		for _, a := range types {
			if !below[[2]string{a, a}] {
				t.Error(a)
			}
			for _, b := range types {
				if ids := strings.Fields(s.Do("ids " + a + "|" + b)); below[[2]string{a, b}] && below[[2]string{b, a}] && ids[1] != ids[2] {
					t.Error(a, b)
				}
				for _, c := range types {
					if below[[2]string{a, b}] && below[[2]string{b, c}] {
						count++
						if !below[[2]string{a, c}] {
							t.Error(a, b, c)
						}
					}
				}
			}
		}
	}
	if count < 1000 {
		t.Error("hardly met", count)
	}
}

// TestTableAndFind: C4, C7 and C10, a table has just the interface's methods, each as find finds it; what is below an interface
// has them all.
func TestTableAndFind(t *testing.T) {
	m := newMaker(23)
	rows := 0
	for range 30 {
		s, types := taken(t, m, 16)
		for _, a := range types {
			for _, b := range types {
				if !strings.HasPrefix(s.Do("label "+b), "ok interface") {
					plays(t, s, play{"table " + a + "|" + b, "error 1"})
					continue
				}
				if s.Do("below "+a+"|"+b) != "ok yes" {
					plays(t, s, play{"table " + a + "|" + b, "error 40"})
					continue
				}
				table := strings.Fields(s.Do("table " + a + "|" + b))[1:]
				rows += len(table)
				var names []string
				for _, row := range table {
					name, owner, _ := strings.Cut(row, ":")
					names = append(names, name)
					want := "ok method " + owner
					if owner == "-" {
						want = "ok iface"
					}
					if got := s.Do("find " + name + " " + a); got != want && !strings.HasPrefix(got, want+" ") {
						t.Error(a, b, row, got)
					}
				}
				if got := strings.Fields(s.Do("methods " + b))[1:]; !slices.Equal(got, names) || !slices.IsSorted(names) {
					t.Error(a, b, got, names)
				}
			}
		}
	}
	if rows < 200 {
		t.Error("hardly met", rows)
	}
}
