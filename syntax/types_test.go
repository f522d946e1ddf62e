package syntax_test

import (
	"fmt"
	"math"
	"slices"
	"strings"
	"testing"

	"coil/api"
	"coil/syntax"
)

var integer = api.Type{Kind: api.TInt}

func named(s string) api.Type { return api.Type{Kind: api.TName, Name: s} }

func pointer(t api.Type) api.Type { return api.Type{Kind: api.TPtr, Parts: []api.Type{t}} }

func function(parts ...api.Type) api.Type { return api.Type{Kind: api.TFn, Parts: parts} }

// field is the record of one field that is not embedded.
func field(name string, t api.Type) api.Type {
	return api.Type{Kind: api.TRec, Names: []string{name}, Embeds: []bool{false}, Parts: []api.Type{t}}
}

// method is the interface of one method.
func method(name string, t api.Type) api.Type {
	return api.Type{Kind: api.TIface, Names: []string{name}, Parts: []api.Type{t}}
}

// nested wraps t n times.
func nested(n int, t api.Type, wrap func(api.Type) api.Type) api.Type {
	for range n {
		t = wrap(t)
	}
	return t
}

// wrote fails, unless that text was answered.
func wrote(t *testing.T, want, got string, e api.Errno) {
	t.Helper()
	if got != want || e != api.OK {
		t.Errorf("%.80q, %v, not %.80q", got, e, want)
	}
}

// refused fails, unless that refusal was answered, and no text.
func refused(t *testing.T, want api.Errno, what any, got string, e api.Errno) {
	t.Helper()
	if got != "" || e != want {
		t.Errorf("%.200s: %.80q, %v, not %v", fmt.Sprint(what), got, e, want)
	}
}

func writesType(t *testing.T, want string, x api.Type) {
	t.Helper()
	got, e := syntax.Type(x)
	wrote(t, want, got, e)
}

func refusesType(t *testing.T, want api.Errno, x api.Type) {
	t.Helper()
	got, e := syntax.Type(x)
	refused(t, want, x, got, e)
}

// TestType: P2.1, the text of each kind of type.
func TestType(t *testing.T) {
	writesType(t, "int", integer)
	writesType(t, "bool", api.Type{Kind: api.TBool})
	writesType(t, "text", api.Type{Kind: api.TText})
	writesType(t, "B", named("B"))
	writesType(t, "Bb_9", named("Bb_9"))
	writesType(t, "* * int", pointer(pointer(integer)))
	writesType(t, "fn ( ) int", function(integer))
	writesType(t, "fn ( int ) B", function(integer, named("B")))
	writesType(t, "fn ( int , * B , text ) bool", function(integer, pointer(named("B")), api.Type{Kind: api.TText}, api.Type{Kind: api.TBool}))
	writesType(t, "fn ( fn ( int ) A ) fn ( ) B", function(function(integer, named("A")), function(named("B"))))
	writesType(t, "{ a int ; embed b B ; c { } ; }", api.Type{Kind: api.TRec, Names: []string{"a", "b", "c"},
		Embeds: []bool{false, true, false}, Parts: []api.Type{integer, named("B"), {Kind: api.TRec}}})
	writesType(t, "interface { b ( int ) B ; a ( ) fn ( A ) int ; }", api.Type{Kind: api.TIface, Names: []string{"b", "a"},
		Parts: []api.Type{function(integer, named("B")), function(function(named("A"), integer))}})
}

// TestTypeRuns: the chapter's runs of types.
func TestTypeRuns(t *testing.T) {
	record := pointer(api.Type{Kind: api.TRec, Names: []string{"a", "b"}, Embeds: []bool{false, true}, Parts: []api.Type{integer, named("B")}})
	writesType(t, "* { a int ; embed b B ; }", record)
	if syntax.Nodes(record) != 3 || !slices.Equal(syntax.Names(record), []string{"B"}) || syntax.Depth(record) != 3 {
		t.Error(syntax.Nodes(record), syntax.Names(record), syntax.Depth(record))
	}
	face := method("a", function(integer, named("B")))
	writesType(t, "interface { a ( int ) B ; }", face)
	if syntax.Nodes(face) != 3 {
		t.Error(syntax.Nodes(face))
	}
	refusesType(t, api.ErrArg, named("a"))
	refusesType(t, api.ErrArg, api.Type{Kind: api.TRec, Names: []string{"a", "a"}, Embeds: []bool{false, false}, Parts: []api.Type{integer, integer}})
}

// TestTypeEmptyLists: P2.1, nil and empty lists are the same, of each kind.
func TestTypeEmptyLists(t *testing.T) {
	writesType(t, "{ }", api.Type{Kind: api.TRec})
	writesType(t, "interface { }", api.Type{Kind: api.TIface})
	for _, x := range rightTypes() {
		want, e := syntax.Type(x)
		if e != api.OK {
			t.Error(x, e)
		}
		if x.Names == nil {
			x.Names = []string{}
		}
		if x.Embeds == nil {
			x.Embeds = []bool{}
		}
		if x.Parts == nil {
			x.Parts = []api.Type{}
		}
		writesType(t, want, x)
	}
}

// rightTypes is a right type of each kind.
func rightTypes() []api.Type {
	return []api.Type{
		integer, {Kind: api.TBool}, {Kind: api.TText}, named("A"), pointer(integer), field("a", integer), {Kind: api.TRec},
		function(integer), function(integer, integer), method("a", function(integer)), {Kind: api.TIface},
	}
}

// TestTypeWithMore: P2.1, a right type with a field too many is refused.
func TestTypeWithMore(t *testing.T) {
	for _, x := range rightTypes() {
		if x.Kind != api.TName {
			y := x
			y.Name = "A"
			refusesType(t, api.ErrArg, y)
		}
		y := x
		y.Names = append(slices.Clone(x.Names), "z")
		refusesType(t, api.ErrArg, y)
		y = x
		y.Embeds = append(slices.Clone(x.Embeds), false)
		refusesType(t, api.ErrArg, y)
		if x.Kind != api.TFn {
			y = x
			y.Parts = append(slices.Clone(x.Parts), function(integer))
			refusesType(t, api.ErrArg, y)
		}
	}
}

// TestTypeWithLess: P2.1, a right type with a field too few is refused, as is a kind that is none.
func TestTypeWithLess(t *testing.T) {
	for _, x := range rightTypes() {
		for _, kind := range []int{0, -1, 9, math.MaxInt, math.MinInt} {
			y := x
			y.Kind = kind
			refusesType(t, api.ErrArg, y)
		}
		if len(x.Names) > 0 {
			y := x
			y.Names = nil
			refusesType(t, api.ErrArg, y)
		}
		if len(x.Embeds) > 0 {
			y := x
			y.Embeds = nil
			refusesType(t, api.ErrArg, y)
		}
		if len(x.Parts) > 0 {
			y := x
			y.Parts = nil
			refusesType(t, api.ErrArg, y)
		}
	}
	refusesType(t, api.ErrArg, named(""))
	refusesType(t, api.ErrArg, api.Type{Kind: api.TPtr, Parts: []api.Type{integer, integer}})
}

// notNames can't be a field's name, a variable's, a method's.
func notNames() []string {
	return []string{"", "A", "let", "int", "self", "_a", "1", "9a", "a b", " a", "a ", "a;", "\"a\"", "//", "\xc3\xa9", strings.Repeat("a", api.MaxName+1)}
}

// notTypeNames can't be the name of a type.
func notTypeNames() []string {
	return []string{"", "a", "let", "int", "_A", "1", "A B", " A", "A ", "A;", "\"A\"", "//", "\xc3\x84", "A" + strings.Repeat("a", api.MaxName)}
}

// TestTypeNames: P2.1, the names in types are tokens of their kind, no two of one list the same.
func TestTypeNames(t *testing.T) {
	long := strings.Repeat("a", api.MaxName)
	writesType(t, "A"+long[1:], named("A"+long[1:]))
	writesType(t, "{ "+long+" int ; }", field(long, integer))
	for _, s := range notTypeNames() {
		refusesType(t, api.ErrArg, named(s))
	}
	for _, s := range notNames() {
		refusesType(t, api.ErrArg, field(s, integer))
		refusesType(t, api.ErrArg, method(s, function(integer)))
	}
	three := api.Type{Kind: api.TRec, Names: []string{"a", "b", "c"}, Embeds: []bool{true, true, true}, Parts: []api.Type{integer, integer, integer}}
	writesType(t, "{ embed a int ; embed b int ; embed c int ; }", three)
	fns := api.Type{Kind: api.TIface, Names: three.Names, Parts: []api.Type{function(integer), function(integer), function(integer)}}
	writesType(t, "interface { a ( ) int ; b ( ) int ; c ( ) int ; }", fns)
	for _, names := range [][]string{{"a", "a", "b"}, {"b", "a", "a"}, {"a", "b", "a"}} {
		three.Names, fns.Names = names, names
		refusesType(t, api.ErrArg, three)
		refusesType(t, api.ErrArg, fns)
	}
	writesType(t, "{ a { a int ; } ; }", field("a", field("a", integer)))
}

// TestTypeParts: P2.1, each part must be right, and an interface's a function type.
func TestTypeParts(t *testing.T) {
	for _, wrong := range []api.Type{{}, named("a"), {Kind: api.TPtr}, function(), field("A", integer)} {
		refusesType(t, api.ErrArg, wrong)
		refusesType(t, api.ErrArg, pointer(wrong))
		refusesType(t, api.ErrArg, field("a", wrong))
		refusesType(t, api.ErrArg, function(wrong))
		refusesType(t, api.ErrArg, function(wrong, integer))
		refusesType(t, api.ErrArg, function(integer, wrong))
		refusesType(t, api.ErrArg, method("a", wrong))
		refusesType(t, api.ErrArg, method("a", function(wrong)))
		refusesType(t, api.ErrArg, pointer(field("a", function(integer, pointer(wrong)))))
	}
	for _, x := range rightTypes() {
		if x.Kind != api.TFn {
			refusesType(t, api.ErrArg, method("a", x))
		}
	}
}

// TestTypeNest: P2.1 around MaxNest, whatever the parts stand in.
func TestTypeNest(t *testing.T) {
	inField := func(x api.Type) api.Type { return field("a", x) }
	result := func(x api.Type) api.Type { return function(x) }
	argument := func(x api.Type) api.Type { return function(x, integer) }
	for _, wrap := range []func(api.Type) api.Type{pointer, inField, result, argument} {
		most := nested(api.MaxNest-1, integer, wrap)
		if _, e := syntax.Type(most); e != api.OK || syntax.Depth(most) != api.MaxNest {
			t.Error(e, syntax.Depth(most))
		}
		refusesType(t, api.ErrArg, wrap(most))
		refusesType(t, api.ErrArg, nested(3*api.MaxNest, integer, wrap))
	}
	inMethod := func(x api.Type) api.Type { return method("a", function(x)) }
	most := nested(api.MaxNest/2-1, pointer(integer), inMethod)
	if _, e := syntax.Type(most); e != api.OK || syntax.Depth(most) != api.MaxNest {
		t.Error(e, syntax.Depth(most))
	}
	refusesType(t, api.ErrArg, pointer(most))
}

// TestTypeOrder: P2.1, ErrArg ahead of ErrLong ahead of ErrMany, and what is just not too long or too many.
func TestTypeOrder(t *testing.T) {
	ints := func(n int) api.Type { return function(slices.Repeat([]api.Type{integer}, n)...) }
	n := api.MaxItems/2 - 1 // n parts are 2n + 1 tokens
	if s, e := syntax.Type(pointer(ints(n))); e != api.OK || strings.Count(s, " ") != api.MaxItems-1 {
		t.Error(e, strings.Count(s, " "))
	}
	refusesType(t, api.ErrMany, ints(n+1))
	refusesType(t, api.ErrMany, pointer(pointer(ints(n))))
	long := named("A" + strings.Repeat("a", api.MaxName-1))
	longs := func(n int, rest ...api.Type) api.Type {
		return function(append(slices.Repeat([]api.Type{long}, n), rest...)...)
	}
	refusesType(t, api.ErrLong, longs(api.MaxText/32))
	refusesType(t, api.ErrLong, longs(api.MaxText))
	refusesType(t, api.ErrMany, ints(api.MaxItems))
	refusesType(t, api.ErrLong, ints(api.MaxText))
	refusesType(t, api.ErrArg, longs(api.MaxText, named("a")))
	refusesType(t, api.ErrArg, longs(api.MaxText, field("A", integer)))
	refusesType(t, api.ErrArg, pointer(longs(api.MaxText, named("a"), integer)))
}
