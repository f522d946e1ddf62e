package lower_test

import (
	"fmt"
	"reflect"
	"slices"
	"strings"
	"testing"

	"coil/api"
	"coil/check"
	"coil/lower"
)

// spoil writes into all of a list, and its spare room.
func spoil[T any](l []T, with T) {
	l = l[:cap(l)]
	for i := range l {
		l[i] = with
	}
}

// whole has sites, variables and fields of all sorts.
func whole() string {
	return function("let v = g.n(j.n(d)); if h.j.m() == 1 { let w = ff.m(); print B{y: \"\", a: A{x: w}}; } else { while e.x < 2 { let u = e.n(v); } } print new H{j: j, i: pf, h: h.h}.j.k();")
}

// told is all that there is to say of a program's code, as a text: it shares no memory with what was answered.
func told(c *lower.Code) string {
	said := []any{c.Sites(), c.Len(), c.Blocks(), c.Lists()}
	for _, owner := range strings.Fields("- A B K I f m") {
		for _, name := range strings.Fields("- m k n f main a") {
			owner, name := strings.Trim(owner, "-"), strings.Trim(name, "-")
			n, ok := c.Slots(owner, name)
			number, found := c.Number(owner, name)
			said = append(said, n, ok, number, found)
		}
	}
	return fmt.Sprintf("%#v", said)
}

// ofChecked is all that there is to say of a checked program.
func ofChecked(c *check.Checked) []any {
	up, down := c.Casts()
	return []any{c.Types(), up, down, c.Result(), c.Size(), c.Classes().Text(), c.Classes().Graph().Len(), c.Classes().Graph().Roots(), c.Codes()}
}

// TestAnswers: R2, what is written into an answered list, or into its spare room, changes nothing of later answers, nor of
// others; and an answered list stays as it is, whatever is asked later.
func TestAnswers(t *testing.T) {
	c := made(t, whole())
	before := told(c)
	first, second := c.Sites(), c.Sites()
	same := slices.Clone(first)
	spoil(second, lower.Site{Iface: -7, Method: -7})
	_ = append(c.Sites()[:1], lower.Site{Iface: 99})
	if !slices.Equal(first, same) || len(first) != 5 || told(c) != before {
		t.Error("Sites", first)
	}
	blocks := c.Blocks()
	for _, b := range blocks {
		spoil(b.Instrs, lower.Instr(lower.Drop{}))
	}
	spoil(blocks, lower.Block{Slots: 99})
	lists := c.Lists()
	for _, l := range lists {
		spoil(l, 99)
	}
	spoil(lists, nil)
	if !slices.Equal(first, same) || told(c) != before {
		t.Error("an answer has changed")
	}
}

// TestLists: R2, no two lists of one answer share memory, their spare room included.
func TestLists(t *testing.T) {
	c := made(t, whole())
	for i := range c.Lists() {
		lists := c.Lists()
		_ = append(lists[i], 99)
		spoil(lists[i], 99)
		for n, l := range c.Lists() {
			if n != i && !slices.Equal(lists[n], l) {
				t.Error(i, n)
			}
		}
	}
	for i := range c.Blocks() {
		blocks := c.Blocks()
		_ = append(blocks[i].Instrs, lower.Drop{})
		spoil(blocks[i].Instrs, lower.Instr(lower.Drop{}))
		for n, b := range c.Blocks() {
			if n != i && !reflect.DeepEqual(blocks[n], b) {
				t.Error(i, n)
			}
		}
	}
}

// TestStays: R2 and R4, other programs that are lowered change nothing, nor does lowering one again; the checked program stays
// as it is.
func TestStays(t *testing.T) {
	checked := accepted(t, parsed(t, whole()))
	said := ofChecked(checked)
	c := lowered(t, checked)
	before, l := told(c), c.Sites()
	kept := slices.Clone(l)
	for range 5 {
		if again := lowered(t, checked); again == c || told(again) != before {
			t.Error("not the same again")
		}
		made(t, fourth)
		lower.Program(nil)
		m := newMaker(1)
		made(t, m.program())
	}
	if !slices.Equal(l, kept) || told(c) != before || !reflect.DeepEqual(ofChecked(checked), said) {
		t.Error("an answer has changed")
	}
}

// TestTree: R2, code does not hang on the tree that was checked.
func TestTree(t *testing.T) {
	p := parsed(t, whole())
	checked := accepted(t, p)
	want := told(lowered(t, accepted(t, parsed(t, whole()))))
	early := lowered(t, checked)
	for _, l := range [][]api.Code{p.Methods, p.Funcs} {
		for i := range l {
			for _, s := range l[i].Body {
				spoil(s.X, api.Expr{Kind: api.XInt, N: 99})
				spoil(s.Body, api.Stmt{})
			}
			spoil(l[i].Body, api.Stmt{})
			spoil(l[i].Params, api.Param{})
			l[i] = api.Code{}
		}
	}
	spoil(p.Defs, api.Def{})
	if told(early) != want || told(lowered(t, checked)) != want {
		t.Error("it hangs on the tree")
	}
}

// TestNoNames: P13.1, instructions hold no method's name, nor that of a field or variable.
func TestNoNames(t *testing.T) {
	const src = "type I = interface {aardvark() int; zebra(I) I;}; type A = {fox int;}; method A.aardvark() int { let hen = self.fox; return hen; } method A.zebra(owl I) I { return owl; } type D = {embed yak I;}; type E = {embed cow *D; embed dog {embed pig A;};}; " +
		"func gnu(rat D, bee E) int { let ant = rat.zebra(rat).aardvark() + A{fox: 1}.aardvark(); while ant < 1 { ant = bee.cow.aardvark() + bee.fox + bee.dog.pig.aardvark(); } rat.yak.zebra(bee.cow.yak); return new D{yak: A{fox: ant}}.zebra(rat).aardvark(); } main int { return 1; }"
	text := fmt.Sprintf("%#v", made(t, src).Blocks())
	for _, name := range strings.Fields("aardvark zebra fox hen owl yak cow dog pig gnu rat bee ant") {
		if strings.Contains(text, name) {
			t.Error(name, text)
		}
	}
	if !strings.Contains(text, "lower.Dispatch{") || !strings.Contains(text, "lower.Call{") {
		t.Error(text)
	}
}
