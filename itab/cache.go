package itab

import (
	"slices"

	"coil/api"
	"coil/subtype"
)

// Cache keeps the tables of a relation that were asked for last.
type Cache struct {
	*subtype.Relation
	most            int
	tables          map[[2]int]Table // by class and interface
	asked           [][2]int         // the pairs of these tables, the one that was asked for last first
	builds, lookups int
}

// New answers an empty cache that keeps at most so many tables.
func New(r *subtype.Relation, most int) (*Cache, api.Errno) {
	if r == nil || most < 1 || most > api.MaxTabs {
		return nil, api.ErrArg
	}
	c := &Cache{most: most}
	c.Reset(r)
	return c, api.OK
}

// Reset empties the cache, and has it keep tables of r from now on.
func (c *Cache) Reset(r *subtype.Relation) api.Errno {
	if r == nil {
		return api.ErrArg
	}
	*c = Cache{Relation: r, most: c.most, tables: map[[2]int]Table{}}
	return api.OK
}

// Get answers the table of a class and an interface; one that isn't kept is built, and kept from now on.
func (c *Cache) Get(class, iface int) (Table, api.Errno) {
	t, why := c.ask([2]int{class, iface})
	t.Rows = slices.Clone(t.Rows)
	for i, row := range t.Rows {
		t.Rows[i] = copied(row)
	}
	return t, why
}

// Row answers one row of the table that Get would answer: api.ErrRange, if it has none of that number.
func (c *Cache) Row(class, iface, method int) (api.Member, api.Errno) {
	t, why := c.ask([2]int{class, iface})
	switch {
	case why != api.OK:
		return api.Member{}, why
	case method < 0 || method >= len(t.Rows):
		return api.Member{}, api.ErrRange
	}
	return copied(t.Rows[method]), api.OK
}

// Held lists the classes and interfaces whose tables are kept, the one that was asked for last first.
func (c *Cache) Held() [][2]int { return slices.Clone(c.asked) }

// Len is how many tables are kept.
func (c *Cache) Len() int { return len(c.tables) }

// Builds is how many tables were built since the cache was made or emptied.
func (c *Cache) Builds() int { return c.builds }

// Lookups is how many rows these tables had.
func (c *Cache) Lookups() int { return c.lookups }

// ask answers the table of a pair as it is kept: only copies of its lists may be handed out.
func (c *Cache) ask(pair [2]int) (Table, api.Errno) {
	t, ok := c.tables[pair]
	if !ok {
		var why api.Errno
		if t, why = c.build(pair); why != api.OK {
			return Table{}, why
		}
	}
	c.asked = slices.DeleteFunc(c.asked, func(p [2]int) bool { return p == pair })
	c.asked = slices.Insert(c.asked, 0, pair)
	return t, api.OK
}

// build makes a table and keeps it, in place of the one that was asked for longest ago, if there is no more room.
func (c *Cache) build(pair [2]int) (Table, api.Errno) {
	t, why := Build(c.Relation, pair[0], pair[1])
	if why != api.OK {
		return Table{}, why
	}
	if last := c.most - 1; len(c.asked) > last {
		delete(c.tables, c.asked[last])
		c.asked = c.asked[:last]
	}
	c.tables[pair] = t
	c.builds++
	c.lookups += len(t.Rows)
	return t, api.OK
}

// copied is a row with a path of its own.
func copied(m api.Member) api.Member {
	m.Path = slices.Clone(m.Path)
	return m
}
