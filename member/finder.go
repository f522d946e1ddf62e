package member

import (
	"slices"

	"coil/api"
	"coil/canon"
)

// Finder keeps what Lookup finds: programs ask for few members, very often.
type Finder struct {
	classes *canon.Classes
	known   map[question]answer
}

type question struct {
	class int
	name  string
}

type answer struct {
	api.Member
	why api.Errno
}

// NewFinder knows nothing yet of the members of these classes.
func NewFinder(c *canon.Classes) *Finder {
	return &Finder{classes: c, known: map[question]answer{}}
}

// Lookup answers the same as the function of that name.
func (f *Finder) Lookup(class int, name string) (api.Member, api.Errno) {
	q := question{class, name}
	a, ok := f.known[q]
	if !ok {
		a.Member, a.why = Lookup(f.classes, class, name)
		f.known[q] = a
	}
	m := a.Member
	m.Path = slices.Clone(m.Path) // the one that is kept is nobody else's
	return m, a.why
}
