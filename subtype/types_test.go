package subtype_test

import (
	"errors"
	"strconv"
	"strings"
	"testing"

	"coil/api"
	"coil/canon"
	"coil/graph"
	"coil/subtype"
)

// TestTypes: P8.3, of types that the classes have and of those that they haven't.
func TestTypes(t *testing.T) {
	c := made(t, runs)
	before := c.Text()
	for _, x := range []struct {
		a, b string
		want bool
	}{
		{"J", "I", true}, {"I", "J", false}, {"A", "A", true},
		{"text", "text", true}, {"text", "int", false}, {"int", "text", false}, {"text", "bool", false},
		{"A", "interface {}", true}, {"{q text;}", "interface {}", true}, {"interface {n() interface {};}", "I", false}, {"A", "interface {n() interface {m() int;};}", true}, {"A", "interface {n() interface {m() bool;};}", false},
		{"{y {z A;};}", "{y {z J;};}", true}, {"{y {z J;};}", "{y {z A;};}", false}, {"fn(text) A", "fn(text) I", true}, {"{x int;}", "A", false}, {"A", "{x int;}", false}, {"{x int;}", "{x int;}", true},
		{"{embed a A;}", "J", true}, {"*{embed a *A;}", "J", true}, {"**{embed a A;}", "J", false},
	} {
		if got, err := subtype.Below(c, typ(t, x.a), typ(t, x.b)); got != x.want || err != nil {
			t.Error(x, got, err)
		}
	}
	if c.Text() != before || c.Graph().Len() != made(t, runs).Graph().Len() {
		t.Error("the classes have changed")
	}
	if got, err := subtype.Below(made(t, ""), typ(t, "*{a int;}"), typ(t, "*{a interface {};}")); !got || err != nil { // no classes at all
		t.Error(got, err)
	}
}

// TestRefusals: P8.3, what Ids refuses of the first type, the second and both; and nil classes, ahead of all.
func TestRefusals(t *testing.T) {
	c := made(t, runs)
	wrong := api.Type{Kind: api.TPtr}
	noName, otherName := typ(t, "{a Z;}"), typ(t, "*Y")
	tooMany := typ(t, "{"+wide(api.MaxTypes-c.Graph().Len())+"}")
	embeds := typ(t, "{embed e int;}")
	good := typ(t, "A")
	for i, x := range []struct {
		a, b api.Type
		why  api.Errno
		name string
	}{
		{wrong, good, api.ErrArg, ""}, {good, wrong, api.ErrArg, ""}, {wrong, wrong, api.ErrArg, ""}, {api.Type{}, good, api.ErrArg, ""}, {good, api.Type{}, api.ErrArg, ""},
		{noName, good, api.ErrNoName, "Z"}, {good, noName, api.ErrNoName, "Z"}, {noName, otherName, api.ErrNoName, "Z"}, {otherName, noName, api.ErrNoName, "Y"},
		{tooMany, good, api.ErrTooMany, ""}, {good, tooMany, api.ErrTooMany, ""}, {tooMany, tooMany, api.ErrTooMany, ""},
		{embeds, good, api.ErrEmbed, "e"}, {good, embeds, api.ErrEmbed, "e"}, {embeds, embeds, api.ErrEmbed, "e"},
		{noName, wrong, api.ErrArg, ""}, {embeds, noName, api.ErrNoName, "Z"}, {embeds, tooMany, api.ErrTooMany, ""}, {tooMany, noName, api.ErrNoName, "Z"}, {tooMany, wrong, api.ErrArg, ""},
	} {
		got, err := subtype.Below(c, x.a, x.b)
		refuses(t, strconv.Itoa(i), got, err, x.why, x.name)
		_, same := c.Ids(x.a, x.b)
		if err == nil || same == nil || err.Error() != same.Error() {
			t.Error(i, err, same)
		}
		got, err = subtype.Below(nil, x.a, x.b)
		refuses(t, strconv.Itoa(i)+" of nil", got, err, api.ErrArg, "")
	}
	got, err := subtype.Below(nil, good, good)
	refuses(t, "nil", got, err, api.ErrArg, "")
	half := typ(t, "{"+wide((api.MaxTypes-c.Graph().Len())/2)+"}") // each alone has room, both together have not
	if got, err := subtype.Below(c, half, good); got || err != nil {
		t.Error(got, err)
	}
	got, err = subtype.Below(c, half, half)
	refuses(t, "halves", got, err, api.ErrTooMany, "")
	var none *canon.Classes
	got, err = subtype.Below(none, half, half)
	refuses(t, "nil of its type", got, err, api.ErrArg, "")
}

// wide are so many fields, of a node each.
func wide(n int) string {
	var b strings.Builder
	for i := range n {
		b.WriteString("f" + strconv.Itoa(i) + " int; ")
	}
	return b.String()
}

// refuses fails, unless it is a *graph.Refusal with that number, place 0 and that name.
func refuses(t *testing.T, what string, got bool, err error, why api.Errno, name string) {
	t.Helper()
	var r *graph.Refusal
	if got || !errors.As(err, &r) || r.Why != why || r.Name != name || r.Where() != 0 || !errors.Is(err, why) || err.Error() == "" {
		t.Error(what, got, err)
	}
}
