package machine

import (
	"coil/api"
	"coil/lower"
	"coil/value"
)

// find answers the record on which a method is called, and the method's block. A table may lead to a further interface, in
// the value: there the table of what it holds goes on.
func (m *machine) find(v api.Value, s lower.Site) (api.Value, int, api.Errno) {
	row, why := m.row(v.Class, s)
	for why == api.OK && row.Kind == api.MIface {
		if v, s, why = m.inner(v, row); why == api.OK {
			row, why = m.row(v.Class, s)
		}
	}
	if why == api.OK {
		v, why = m.shapes.Walk(v, row.Path...)
	}
	if why == api.OK {
		v, why = value.Followed(v)
	}
	if why != api.OK {
		return api.Value{}, 0, why
	}
	block, _ := m.code.Number(row.Owner, row.Name)
	return v, block, api.OK
}

// row finds a method in the table of a class.
func (m *machine) row(class int, s lower.Site) (api.Member, api.Errno) {
	row, why := m.Row(class, s.Iface, s.Method)
	if why == api.OK {
		m.calls++
		m.pairs[[2]int{class, s.Iface}] = struct{}{}
	}
	return row, why
}

// inner answers what stands in the embedded interface that has a row's method, and where the call goes by that one.
func (m *machine) inner(v api.Value, row api.Member) (api.Value, lower.Site, api.Errno) {
	last := len(row.Path) - 1 // there is one: no value is of an interface's own class
	v, why := m.shapes.Walk(v, row.Path[:last]...)
	if why == api.OK {
		v, why = value.Followed(v)
	}
	if why != api.OK {
		return api.Value{}, lower.Site{}, why
	}
	place, _ := m.shapes.Place(v.Class, row.Path[last])
	iface := m.Children(v.Class)[place]
	method, _ := m.shapes.Place(iface, row.Name)
	return v.Parts[place], lower.Site{Iface: iface, Method: method}, api.OK
}
