package check

import "coil/api"

// record answers the class of a record that is written down with its fields.
func (b *body) record(x api.Expr) (int, *Refusal) {
	node, ok := b.graph.Root(x.S)
	if !ok {
		return 0, &Refusal{Place: x.Place, Why: api.ErrNoName, Name: x.S}
	}
	if b.graph.Kind(node) != api.TRec {
		return 0, wrong(x)
	}
	parts, r := b.exprs(x.Parts)
	if r != nil {
		return 0, r
	}
	if r := b.fill(x, parts, b.fields(node)); r != nil {
		return 0, r
	}
	class, _ := b.Of(node)
	return class, nil
}

// fields answers, by name, the class of each field that stands in a record itself.
func (b *body) fields(node int) map[string]int {
	fields := map[string]int{}
	parts := b.graph.Parts(node)
	for i, name := range b.graph.Names(node) {
		fields[name], _ = b.Of(parts[i])
	}
	return fields
}

// fill refuses the parts of a record, unless they are just what its fields ask.
func (b *body) fill(x api.Expr, parts []int, fields map[string]int) *Refusal {
	for _, name := range x.Names {
		if _, ok := fields[name]; !ok {
			return &Refusal{Place: x.Place, Why: api.ErrField, Name: name}
		}
	}
	if len(x.Names) < len(fields) { // no two of the names are the same
		return &Refusal{Place: x.Place, Why: api.ErrCount}
	}
	for i, name := range x.Names {
		if r := b.fit(x.Parts[i], parts[i], fields[name]); r != nil {
			return r
		}
	}
	return nil
}

// member answers the member of a class that an expression names; it refuses one that is a field where a method must stand,
// and the other way round.
func (b *body) member(x api.Expr, class int, field bool) (api.Member, *Refusal) {
	m, why := b.members.Lookup(class, x.S)
	if why == api.OK && field != (m.Kind == api.MField) {
		why = api.ErrField
	}
	if why != api.OK {
		return api.Member{}, &Refusal{Place: x.Place, Why: why, Name: x.S}
	}
	return m, nil
}

func (b *body) field(x api.Expr, class int) (int, *Refusal) {
	m, r := b.member(x, class, true)
	return m.Node, r
}

func (b *body) call(x api.Expr, parts []int) (int, *Refusal) {
	m, r := b.member(x, parts[0], false)
	if r != nil {
		return 0, r
	}
	return b.pass(x, m.Node, parts[1:])
}

func (b *body) apply(x api.Expr, parts []int) (int, *Refusal) {
	if b.kind(parts[0]) != api.TFn {
		return 0, wrong(x.Parts[0])
	}
	return b.pass(x, parts[0], parts[1:])
}

// pass answers what a function of that type gives for arguments of these classes.
func (b *body) pass(x api.Expr, function int, arguments []int) (int, *Refusal) {
	head := b.Children(function)
	last := len(head) - 1
	if len(arguments) != last {
		return 0, &Refusal{Place: x.Place, Why: api.ErrCount}
	}
	for i, class := range arguments {
		if r := b.fit(x.Parts[1+i], class, head[i]); r != nil {
			return 0, r
		}
	}
	return head[last], nil
}
