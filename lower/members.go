package lower

import (
	"slices"

	"coil/api"
	"coil/member"
)

// shape is what stands in a record or interface, in the order of the names.
type shape struct {
	names   []string
	classes []int
}

// question asks for a member of a class by its name.
type question struct {
	class int
	name  string
}

// found is a member, and where it is.
type found struct {
	api.Member
	holder int // the class of the record or interface that has it
	Fields     // those that lead to the holder, and behind them a field itself
}

// find answers a member that the class has. Programs name few of them, very often: each is looked for once.
func (l *lowering) find(class int, name string) found {
	q := question{class, name}
	f, ok := l.known[q]
	if !ok {
		f = l.look(class, name)
		l.known[q] = f
	}
	return f
}

func (l *lowering) look(class int, name string) found {
	var f found
	f.Member, _ = member.Lookup(l.Classes, class, name)
	places := make([]int, 0, len(f.Path)+1)
	for _, field := range f.Path {
		holder := l.followed(class)
		place := l.place(holder, field)
		places = append(places, place)
		class = l.shape(holder).classes[place]
	}
	f.holder = l.followed(class)
	if f.Kind == api.MField {
		places = append(places, l.place(f.holder, name))
	}
	f.Fields = l.code.list(places)
	return f
}

// site is where a call of an interface's method goes.
func (l *lowering) site(f found) Site {
	return Site{Iface: f.holder, Method: l.place(f.holder, f.Name)}
}

// followed is the class of what a pointer points to, any other class itself.
func (l *lowering) followed(class int) int {
	node, _ := l.Node(class)
	if l.graph.Kind(node) == api.TPtr {
		return l.Children(class)[0]
	}
	return class
}

// place is the number of a name among those of a record or interface.
func (l *lowering) place(class int, name string) int {
	i, _ := slices.BinarySearch(l.shape(class).names, name)
	return i
}

func (l *lowering) shape(class int) shape {
	s, ok := l.shapes[class]
	if !ok {
		node, _ := l.Node(class)
		s = shape{names: l.graph.Names(node), classes: l.Children(class)}
		slices.Sort(s.names)
		l.shapes[class] = s
	}
	return s
}

// list keeps a list of fields' numbers, and names it.
func (c *Code) list(numbers []int) Fields {
	c.lists = append(c.lists, numbers)
	return Fields{List: len(c.lists) - 1}
}
