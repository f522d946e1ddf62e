package subtype

import (
	"slices"
	"strings"

	"coil/canon"
	"coil/member"
)

// pair is two classes, of which it is asked whether the first may stand for the second.
type pair [2]int

// premise is a pair on which a conclusion hangs.
type premise struct {
	pair pair
	name string // the method's or the field's; else none
}

// part is a child of a class, with what the class's label says of it.
type part struct {
	name     string // none of a pointer's and a function's
	embedded bool
	class    int
}

// shape is what the rules ask of a class.
type shape struct {
	label int    // two classes have one number just if they have one label
	kind  string // the label's first word
	parts []part
}

// classes are those over which a relation is, with what the rules ask of them.
type classes struct {
	*canon.Classes
	shapes  []shape        // by class
	methods map[int][]part // by class, of those that were asked: a part is a method, with its signature
}

func classesOf(c *canon.Classes) classes {
	shapes := make([]shape, c.Len())
	labels := map[string]int{}
	for class := range shapes {
		label := c.Label(class)
		if _, ok := labels[label]; !ok {
			labels[label] = len(labels)
		}
		shapes[class] = shapeOf(label, c.Children(class))
		shapes[class].label = labels[label]
	}
	return classes{Classes: c, shapes: shapes, methods: map[int][]part{}}
}

// shapeOf reads what a label says of the children. The last words of a record's and an interface's are their names, whatever
// stands ahead of them.
func shapeOf(label string, children []int) shape {
	words := strings.Fields(label)
	s := shape{kind: words[0], parts: make([]part, len(children))}
	for i, class := range children {
		s.parts[i].class = class
	}
	if s.kind == "record" || s.kind == "interface" {
		for i, word := range words[len(words)-len(children):] {
			s.parts[i].name, s.parts[i].embedded = strings.CutPrefix(word, "+")
		}
	}
	return s
}

// has tells whether both of a pair are classes.
func (c *classes) has(p pair) bool { return min(p[0], p[1]) >= 0 && max(p[0], p[1]) < c.Len() }

// concludes tells whether a pair of classes is the conclusion of a rule.
func (c *classes) concludes(p pair) bool {
	a, b := c.shapes[p[0]], c.shapes[p[1]]
	if b.kind != "interface" {
		return a.label == b.label
	}
	there := c.methodsOf(p[0])
	for _, asked := range b.parts {
		if _, ok := find(there, asked.name); !ok {
			return false
		}
	}
	return true
}

// premises lists those of a conclusion, in the rules' order.
func (c *classes) premises(p pair) []premise {
	a, b := c.shapes[p[0]], c.shapes[p[1]]
	switch b.kind {
	case "interface":
		return ofMethods(c.methodsOf(p[0]), b.parts)
	case "fn":
		return ofFunctions(a.parts, b.parts)
	}
	return ofParts(a.parts, b.parts)
}

// ofMethods has a premise of each method that is asked.
func ofMethods(there, asked []part) []premise {
	premises := make([]premise, len(asked))
	for i, m := range asked {
		n, _ := find(there, m.name)
		premises[i] = premise{pair{there[n].class, m.class}, m.name}
	}
	return premises
}

// ofFunctions has the parameters the other way round: what takes more may stand for what takes less.
func ofFunctions(a, b []part) []premise {
	result := len(a) - 1
	return append(ofParts(b[:result], a[:result]), ofParts(a[result:], b[result:])...)
}

// ofParts has a premise of each part, and of an embedded field one more, the other way round.
func ofParts(a, b []part) []premise {
	premises := make([]premise, 0, len(a))
	for i, p := range a {
		q := b[i]
		premises = append(premises, premise{pair{p.class, q.class}, p.name})
		if p.embedded {
			premises = append(premises, premise{pair{q.class, p.class}, p.name})
		}
	}
	return premises
}

// find answers the number of the method of that name.
func find(methods []part, name string) (int, bool) {
	return slices.BinarySearchFunc(methods, name, func(m part, name string) int { return strings.Compare(m.name, name) })
}

// methodsOf lists the methods that a class has, by their names: those that Lookup finds.
func (c *classes) methodsOf(class int) []part {
	known, ok := c.methods[class]
	if !ok {
		for _, m := range member.Methods(c.Classes, class) {
			known = append(known, part{name: m.Name, class: m.Node})
		}
		c.methods[class] = known
	}
	return known
}

// fail tells whether a way leads from a pair of classes to one that is no conclusion. It is for one question alone: it stops
// at the first such pair, where a Relation would go on to all, and keeps nothing of it.
func (c *classes) fail(p pair) bool {
	list := []pair{p}
	met := map[pair]struct{}{p: {}}
	for i := 0; i < len(list); i++ { // it grows meanwhile
		if !c.concludes(list[i]) {
			return true
		}
		for _, q := range c.premises(list[i]) {
			if _, ok := met[q.pair]; !ok {
				met[q.pair] = struct{}{}
				list = append(list, q.pair)
			}
		}
	}
	return false
}
