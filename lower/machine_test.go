package lower_test

import (
	"reflect"
	"slices"
	"strings"
	"testing"

	"coil/api"
	"coil/interp"
	"coil/itab"
	"coil/lower"
	"coil/subtype"
	"coil/value"
)

// machine carries out what instructions say, as plainly as can be.
type machine struct {
	*lower.Code
	order   *subtype.Relation
	shapes  value.Shapes
	blocks  []lower.Block
	lists   [][]int
	fuel    int
	open    int
	size    int
	outcome api.Outcome
	met     map[string]int // instructions, by their types
}

// ended is what a run panics with when it ends with an error.
type ended struct{ why api.Errno }

func end(why api.Errno) {
	if why != api.OK {
		panic(ended{why})
	}
}

// execute runs the main one.
func execute(c *lower.Code, fuel int, met map[string]int) (o api.Outcome) {
	classes := c.Checked().Classes()
	m := &machine{Code: c, order: subtype.New(classes), shapes: value.ShapesOf(classes), blocks: c.Blocks(), lists: c.Lists(), fuel: fuel, met: met}
	defer func() {
		if e := recover(); e != nil {
			m.outcome.Why = e.(ended).why
		}
		o = m.outcome
	}()
	main, _ := c.Number("", "")
	text, why := m.shapes.Text(m.enter(main, api.Value{}, nil))
	end(why)
	m.outcome.Value = text
	return
}

func (m *machine) step() {
	if m.outcome.Steps == m.fuel {
		end(api.ErrFuel)
	}
	m.outcome.Steps++
}

func (m *machine) call(block int, self api.Value, args []api.Value) api.Value {
	m.step()
	if m.open == api.MaxCalls {
		end(api.ErrCalls)
	}
	m.open++
	v := m.enter(block, self, args)
	m.open--
	return v
}

// open is an open call.
type open struct {
	*machine
	self  api.Value
	slots []api.Value
	stack []api.Value
	at    int
}

func (m *machine) enter(block int, self api.Value, args []api.Value) api.Value {
	b := m.blocks[block]
	o := &open{machine: m, self: self, slots: make([]api.Value, b.Slots)}
	copy(o.slots[:len(args)], args)
	for {
		i := b.Instrs[o.at]
		m.met[reflect.TypeOf(i).Name()]++
		o.at++
		if _, ok := i.(lower.Return); ok {
			v := o.pop()
			if len(o.stack) > 0 {
				panic("values are left")
			}
			return v
		}
		o.do(i)
	}
}

func (o *open) push(v api.Value) { o.stack = append(o.stack, v) }

func (o *open) pop() api.Value { return o.take(1)[0] }

func (o *open) take(n int) []api.Value {
	at := len(o.stack) - n
	l := slices.Clone(o.stack[at:])
	o.stack = o.stack[:at]
	return l
}

func (o *open) do(i lower.Instr) {
	switch i := i.(type) {
	case lower.Const:
		o.push(i.Value)
	case lower.TooBig:
		end(api.ErrBig)
	case lower.Self:
		o.push(o.self)
	case lower.Load:
		o.push(o.slots[i.Slot])
	case lower.Store:
		o.slots[i.Slot] = o.pop()
	case lower.Drop:
		o.pop()
	case lower.Record:
		places := o.lists[i.List]
		v := api.Value{Kind: api.VRec, Class: i.Class, Parts: make([]api.Value, len(places))}
		for n, part := range o.take(len(places)) {
			v.Parts[places[n]] = part
		}
		o.push(v)
	case lower.Pointer:
		o.push(api.Value{Kind: api.VPtr, Class: i.Class, Parts: o.take(1)})
	case lower.Field:
		o.push(walk(o.pop(), o.lists[i.List]))
	case lower.Call:
		args := o.take(i.Count)
		self := followed(walk(o.pop(), o.lists[i.List]))
		o.push(o.call(i.Block, self, args))
	case lower.Dispatch:
		args := o.take(i.Count)
		self, block := o.find(walk(o.pop(), o.lists[i.List]), i.Site)
		o.push(o.call(block, self, args))
	case lower.Apply:
		args := o.take(i.Count)
		block, _ := o.Number("", o.pop().S)
		o.push(o.call(block, api.Value{}, args))
	case lower.Cast:
		if below, _ := o.order.Below(o.stack[len(o.stack)-1].Class, i.Class); !below {
			end(api.ErrDown)
		}
	default:
		o.rest(i)
	}
}

func (o *open) rest(i lower.Instr) {
	switch i := i.(type) {
	case lower.Unary:
		v := o.pop()
		if i.Kind == api.XNeg {
			o.push(api.Value{Kind: api.VInt, Class: i.Class, N: -v.N})
		} else {
			o.push(said(i.Class, v.N == 0))
		}
	case lower.Binary:
		l := o.take(2)
		o.push(binary(i, l[0], l[1]))
	case lower.Step:
		if len(o.stack) > 0 {
			panic("values are left")
		}
		o.step()
	case lower.Print:
		text, why := o.shapes.Text(o.pop())
		end(why)
		o.size += len(text) + 1
		if o.size > api.MaxOut {
			end(api.ErrBig)
		}
		o.outcome.Out = append(o.outcome.Out, text)
	case lower.Jump:
		o.at = i.To
	case lower.Unless:
		if o.pop().N == 0 {
			o.at = i.To
		}
	case lower.Decided:
		if o.stack[len(o.stack)-1].N == i.N {
			o.at = i.To
		} else {
			o.pop()
		}
	default:
		panic("no instruction")
	}
}

// find goes from table to table, to the method that the value's own class has; its rows' names tell the way.
func (o *open) find(v api.Value, s lower.Site) (api.Value, int) {
	for {
		table, why := itab.Build(o.order, v.Class, s.Iface)
		if why != api.OK {
			panic(why)
		}
		row := table.Rows[s.Method]
		for _, name := range row.Path {
			r := followed(v)
			place, _ := o.shapes.Place(r.Class, name)
			v, s.Iface = r.Parts[place], o.order.Children(r.Class)[place]
		}
		if row.Kind == api.MMethod {
			block, _ := o.Number(row.Owner, row.Name)
			return followed(v), block
		}
		words := strings.Fields(o.order.Label(s.Iface)) // the names behind the kind
		s.Method = slices.Index(words, row.Name) - 1
	}
}

func walk(v api.Value, places []int) api.Value {
	for _, p := range places {
		v = followed(v).Parts[p]
	}
	return v
}

func followed(v api.Value) api.Value {
	if v.Kind != api.VPtr {
		return v
	}
	if len(v.Parts) == 0 {
		end(api.ErrNil)
	}
	return v.Parts[0]
}

func said(class int, ok bool) api.Value {
	v := api.Value{Kind: api.VBool, Class: class}
	if ok {
		v.N = 1
	}
	return v
}

func binary(i lower.Binary, a, b api.Value) api.Value {
	switch i.Kind {
	case api.XMul:
		return api.Value{Kind: api.VInt, Class: i.Class, N: a.N * b.N}
	case api.XSub:
		return api.Value{Kind: api.VInt, Class: i.Class, N: a.N - b.N}
	case api.XEq:
		return said(i.Class, value.Same(a, b))
	case api.XLess:
		return said(i.Class, a.N < b.N || a.S < b.S)
	}
	if i.Kind != api.XAdd {
		panic("no sign")
	}
	if len(a.S)+len(b.S) > api.MaxString {
		end(api.ErrBig)
	}
	return api.Value{Kind: a.Kind, Class: i.Class, N: a.N + b.N, S: a.S + b.S}
}

// alike fails, unless the code of a program comes to the same as the program itself, step by step.
func alike(t *testing.T, src string, c *lower.Code, fuel int, met map[string]int) api.Outcome {
	t.Helper()
	want := interp.Run(c.Checked(), fuel)
	got := execute(c, fuel, met)
	if !slices.Equal(got.Out, want.Out) || got.Why != want.Why || got.Value != want.Value || got.Steps != want.Steps {
		t.Fatalf("%s\nfuel %d: %+v, not %+v", src, fuel, got, want)
	}
	return want
}

// TestOrderOfParts: P13.1, parts are evaluated in the order of the text, each where it is asked for, and what ends a run does
// so where it stands.
func TestOrderOfParts(t *testing.T) {
	const says = set + "func say(n int) int { print n; return n; } func yes(n int) bool { print n; return true; } func no(n int) bool { print n; return false; } func of(n int) A { print n; return A{x: n}; } func none(n int) *A { print n; return nil *A; } "
	long := `"` + strings.Repeat("a", api.MaxString) + `"`
	for stmts, want := range map[string]string{
		"print say(1) - say(2) * say(3);": "1|2|3|-5",
		"print B{y: of(1).k(), a: of(say(2) + 1)}; print new H{j: of(4), h: nil *H, i: of(5)};":                                                "1|2|3|{a: {x: 3}, y: k}|4|5|&{h: nil, i: {x: 5}, j: {x: 4}}",
		"print no(1) and yes(2) or yes(3); print yes(4) or no(5) and no(6); print (yes(7) or no(8)) and no(9);":                                "1|3|true|4|true|7|9|false",
		"print yes(1) and yes(2) and no(3) and yes(4); print not (no(5) or no(6));":                                                            "1|2|3|false|5|6|true",
		"if yes(1) { say(2); } else { say(3); } if no(4) { say(5); } else { say(6); } if no(7) { say(8); } say(9);":                            "1|2|4|6|7|9",
		"let i = 0; while i < 3 { i = i + 1; let v = i; if i == 2 { print v; } } print i;":                                                     "2|3",
		"while yes(1) { while yes(2) { return say(3); } }":                                                                                     "1|2|3",
		"print D{i: G{j: F{d: new D{i: A{x: 1}}, z: 2}.d.i to J, w: 3}}.m(); print D{i: D{i: new D{i: of(4)}}}.m();":                           "1|4|4",
		"let j J = G{w: 1, j: C{a: new A{x: 2}}}; print j.n(D{i: j}).m() + j.m(); print j.k();":                                                "4|k",
		"of(1).n(none(2)).m(); none(3).n(of(4));":                                                                                              "1|2|3|4",
		"print C{a: none(1)}.n(of(2)); say(3);":                                                                                                "1|2",
		"let t T = of(1); print t to I to T to A; print t to *A; say(2);":                                                                      "1|{x: 1}",
		"let f = say; let g = f; print (g)(1) + f(say(2)); print g;":                                                                           "1|2|2|3|fn say",
		"if true { let say = 5; print say; } let say = say; say(1);":                                                                           "5|1",
		"print - - say(1); print 9223372036854775807 + say(2);":                                                                                "1|1|2|-9223372036854775807",
		"print \"b\" < \"a\"; print \"a\" < \"b\"; print \"a\" == \"a\"; print 2 < 1; print true == false; print \"\" + \"c\";":                "false|true|true|false|false|c",
		"say(1); print (" + long + " == " + long + "); say(2); print " + long + " + \"\" == " + long + "; print " + long + " + \"b\"; say(3);": "1|true|2|true",
		"say(1); let v = " + long[:1] + "b" + long[1:] + "; say(2);":                                                                           "1",
		"say(1); say(2 + say(3)) < say(4);":                                                                                                    "1|3|5|4",
	} {
		c := made(t, says+"main int { "+stmts+" return 0; }")
		o := alike(t, stmts, c, 999, map[string]int{})
		if got := strings.Join(o.Out, "|"); got != want {
			t.Errorf("%s: %s, not %s", stmts, got, want)
		}
		for fuel := range o.Steps {
			alike(t, stmts, c, fuel, map[string]int{})
		}
	}
}

// TestMeaning: P13.1, it is the program's code: carried out, it comes to the same.
func TestMeaning(t *testing.T) {
	m := newMaker(31)
	met, count := map[string]int{}, map[api.Errno]int{}
	for range 600 {
		src := m.program()
		c := made(t, src)
		fuel := m.Intn(2000)
		o := alike(t, src, c, fuel, met)
		alike(t, src, c, m.Intn(fuel+1), met)
		count[o.Why]++
	}
	for _, why := range []api.Errno{api.OK, api.ErrFuel, api.ErrNil, api.ErrDown, api.ErrBig, api.ErrCalls} {
		if count[why] < 5 {
			t.Error("hardly met", why, count)
		}
	}
	for _, name := range strings.Fields("Const Self Load Store Drop Record Pointer Field Call Dispatch Apply Return Cast Unary Binary Step Print Jump Unless Decided") {
		if met[name] < 100 {
			t.Error("hardly met", name, met)
		}
	}
}
