package member

import (
	"maps"
	"slices"

	"coil/api"
)

// many is the count of all that stands at one depth more than once: how often, makes no difference.
const many = 2

// standing is a member of a record or interface that stands at some depth.
type standing struct {
	api.Member // without its path
	at         *place
	count      int // of the members of that name at that depth
}

// table holds members by their names: of several of one name one, and their count.
type table struct {
	held map[string]standing
	only string // the one name that it takes up: most calls ask for one; empty, if it takes up all
}

func newTable(only string) table { return table{held: map[string]standing{}, only: only} }

// put adds a member of what stands at a place, as often as that stands there.
func (t table) put(at *place, m api.Member) {
	if t.only == "" || t.only == m.Name {
		t.held[m.Name] = standing{Member: m, at: at, count: min(t.count(m.Name)+at.count, many)}
	}
}

// count is how many members of that name there are.
func (t table) count(name string) int { return t.held[name].count }

// member is the member of that name, if there is but one.
func (t table) member(name string) api.Member {
	s := t.held[name]
	s.Path = s.at.path()
	return s.Member
}

// hide adds those members of a deeper table that it doesn't hide: it has none of their names.
func (t table) hide(deeper table) {
	for name, s := range deeper.held {
		if t.count(name) == 0 {
			t.held[name] = s
		}
	}
}

// members lists the members of these kinds that are the only ones of their names, by the names' bytes.
func (t table) members(kinds ...int) []api.Member {
	var list []api.Member
	for _, name := range slices.Sorted(maps.Keys(t.held)) {
		if t.count(name) == 1 && slices.Contains(kinds, t.held[name].Kind) {
			list = append(list, t.member(name))
		}
	}
	return list
}
