package session

import (
	"coil/api"
	"coil/canon"
	"coil/itab"
	"coil/member"
	"coil/subtype"
	"coil/unfold"
)

func classes(s *Session) ([]string, error) {
	set, err := s.set()
	if err != nil {
		return nil, err
	}
	return numbers(set.Len()), nil
}

func ids(c *canon.Classes, types []api.Type) ([]string, error) {
	list, err := c.Ids(types...)
	if err != nil {
		return nil, err
	}
	return numbers(list...), nil
}

// below is asked of two types; as all that is, of the first one against the second.
func below(c *canon.Classes, types []api.Type) ([]string, error) {
	ok, err := subtype.Below(c, types[0], types[1])
	switch {
	case err != nil:
		return nil, err
	case ok:
		return []string{"yes"}, nil
	}
	return []string{"no"}, nil
}

// added asks of the types' numbers, among the classes to which the types were added.
func added(ask func(c *canon.Classes, ids []int) ([]string, error)) asked {
	return func(c *canon.Classes, types []api.Type) ([]string, error) {
		more, ids, err := c.With(types...)
		if err != nil {
			return nil, err
		}
		return ask(more, ids)
	}
}

func why(c *canon.Classes, ids []int) ([]string, error) {
	way, ok := subtype.New(c).Why(ids[0], ids[1])
	if !ok {
		return []string{"below"}, nil
	}
	return steps(way), nil
}

func differ(c *canon.Classes, ids []int) ([]string, error) {
	a, _ := c.Node(ids[0])
	b, _ := c.Node(ids[1])
	path, ok := unfold.Differ(c.Graph(), a, b)
	if !ok {
		return []string{"same"}, nil
	}
	return steps(path), nil
}

func label(c *canon.Classes, ids []int) ([]string, error) {
	return []string{c.Label(ids[0])}, nil
}

// lookup asks for the member of that name.
func lookup(name string) func(c *canon.Classes, ids []int) ([]string, error) {
	return func(c *canon.Classes, ids []int) ([]string, error) {
		m, why := member.Lookup(c, ids[0], name)
		if why != api.OK {
			return nil, why
		}
		return append(kind(m), m.Path...), nil
	}
}

func methods(c *canon.Classes, ids []int) ([]string, error) {
	var names []string
	for _, m := range member.Methods(c, ids[0]) {
		names = append(names, m.Name)
	}
	return names, nil
}

// table builds one by itself: the cache is not asked.
func table(c *canon.Classes, ids []int) ([]string, error) {
	t, why := itab.Build(subtype.New(c), ids[0], ids[1])
	if why != api.OK {
		return nil, why
	}
	var rows []string
	for _, m := range t.Rows {
		rows = append(rows, m.Name+":"+owner(m))
	}
	return rows, nil
}
