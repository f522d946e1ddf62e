package interp_test

import (
	"slices"
	"strconv"
	"strings"
	"testing"

	"coil/api"
	"coil/interp"
)

// long is a literal of that many bytes.
func long(n int) string { return `"` + strings.Repeat("a", n) + `"` }

// sizes are how long the lines of output are.
func sizes(o api.Outcome) []int {
	var l []int
	for _, s := range o.Out {
		l = append(l, len(s))
	}
	return l
}

// TestLongTexts: XAdd, texts that are joined to just as many bytes as there may be, and to one more.
func TestLongTexts(t *testing.T) {
	const most = api.MaxString
	for _, x := range []struct {
		sum string
		n   int
	}{
		{long(most-1) + ` + "b"`, most}, {long(most-1) + ` + "bb"`, most + 1}, {`"" + ` + long(most), most}, {`"b" + ` + long(most), most + 1}, {long(most) + ` + ""`, most}, {long(most) + ` + "b"`, most + 1},
		{long(most/2) + " + " + long(most/2), most}, {long(most/2) + " + " + long(most/2+1), most + 1}, {long(most/2) + " + " + long(most/2-1) + ` + "b"`, most}, {long(most/2) + " + (" + long(most/2) + ` + "b")`, most + 1}, {long(most) + " + " + long(most), 2 * most},
		{long(most), most}, {long(most + 1), most + 1}, // written so: a text at run time that is too long, too
	} {
		why, out := api.OK, []int{1, x.n}
		if x.n > most {
			why, out = api.ErrBig, out[:1]
		}
		o := interp.Run(checked(t, "main text { print 1; print "+x.sum+"; return "+x.sum+"; }"), 9)
		if o.Why != why || !slices.Equal(sizes(o), out) || len(o.Value) != len(o.Out)/2*x.n || o.Steps != len(o.Out)+1 {
			t.Error(x.n, o.Why, sizes(o), len(o.Value), o.Steps)
		}
		if o := interp.Run(checked(t, "main int { let a = "+x.sum+"; print a == \"\"; return 1; }"), 9); o.Why != why || o.Steps != 1+2*len(o.Out) || (len(o.Out) == 1) != (why == api.OK) {
			t.Error(x.n, o.Why, sizes(o), len(o.Value), o.Steps) // too long, though it is not printed
		}
	}
}

// TestLongRecords: SPrint and what is returned, of values whose text has just as many bytes as there may be, or one more.
func TestLongRecords(t *testing.T) {
	for _, x := range []struct {
		typ, value string
		n          int
	}{
		{"P", "P{a: " + long(4091) + "}", 4096}, {"P", "P{a: " + long(4092) + "}", 4097}, {"*P", "new P{a: " + long(4090) + "}", 4096}, {"*P", "new P{a: " + long(4091) + "}", 4097},
		{"O", "O{p: P{a: " + long(2000) + "}, q: P{a: " + long(2076) + "}}", 4096}, {"O", "O{p: P{a: " + long(2001) + "}, q: P{a: " + long(2076) + "}}", 4097}, {"O", "O{p: P{a: " + long(4096) + "}, q: P{a: " + long(4096) + "}}", 8212},
	} {
		why, out := api.OK, []int{1, x.n}
		if x.n > api.MaxString {
			why, out = api.ErrBig, out[:1]
		}
		const set = "type P = {a text;}; type O = {p P; q P;}; func f(n int) int { return n; } "
		o := interp.Run(checked(t, set+"main int { print f(1); print "+x.value+"; return 2; }"), 99)
		if o.Why != why || !slices.Equal(sizes(o), out) || len(o.Value) != len(out)/2 || o.Steps != 3+len(out) {
			t.Error(x.n, o.Why, sizes(o), o.Value, o.Steps)
		}
		o = interp.Run(checked(t, set+"main "+x.typ+" { print f(1); return "+x.value+"; }"), 99)
		if o.Why != why || !slices.Equal(sizes(o), []int{1}) || len(o.Value) != len(out)/2*x.n || o.Steps != 4 {
			t.Error(x.n, o.Why, sizes(o), len(o.Value), o.Steps)
		}
	}
}

// TestOutput: SPrint, output of just as many bytes as there may be, one more for each text, and of one more.
func TestOutput(t *testing.T) {
	times := func(n int, stmts string) string {
		name := "i" + strconv.Itoa(n)
		return "let " + name + " = 0; while " + name + " < " + strconv.Itoa(n) + " { " + stmts + " " + name + " = " + name + " + 1; } "
	}
	for _, x := range []struct {
		stmts string
		lines int
		size  int
	}{
		{times(16, "print "+long(4095)+";"), 16, 65536},
		{times(15, "print "+long(4095)+";") + "print " + long(4094) + "; print \"\"; ", 17, 65536},
		{times(15, "print "+long(4095)+";") + "print " + long(4096) + "; ", 15, 65537},
		{times(16, "print "+long(4095)+";") + "print \"\"; ", 16, 65537},
		{times(15, "print "+long(4096)+";") + "print " + long(4080) + "; ", 16, 65536},
		{times(15, "print "+long(4096)+";") + "print " + long(4081) + "; ", 15, 65537},
		{times(655, strings.Repeat("print \"\"; ", 100)) + times(36, "print \"\";"), 65536, 65536},
		{times(655, strings.Repeat("print \"\"; ", 100)) + times(37, "print \"\";"), 65536, 65537},
		{times(327, strings.Repeat("print 1; ", 100)) + times(68, "print 2;"), 32768, 65536},
		{times(327, strings.Repeat("print 1; ", 100)) + times(67, "print 2;") + "print 33; ", 32767, 65537},
	} {
		why, value := api.OK, "7"
		if x.size > api.MaxOut {
			why, value = api.ErrBig, ""
		}
		o := interp.Run(checked(t, "main int { "+x.stmts+"return 7; }"), api.MaxFuel)
		if o.Why != why || o.Value != value || len(o.Out) != x.lines {
			t.Error(x.size, o.Why, o.Value, len(o.Out))
		}
	}
	o := interp.Run(checked(t, "main text { "+times(16, "print "+long(4095)+";")+"return "+long(4096)+"; }"), api.MaxFuel) // what is returned is no output
	if o.Why != api.OK || len(o.Value) != 4096 || len(o.Out) != 16 {
		t.Error(o.Why, len(o.Value))
	}
}

// TestCalls: MaxCalls calls may be open, one more not: it is counted ahead of that.
func TestCalls(t *testing.T) {
	const many = api.MaxCalls
	n := func(n int) string { return strconv.Itoa(n) }
	runs(t,
		row{down + "main int { return f(" + n(many-1) + "); }", "", api.OK, n(many - 1), 1 + 3*many},
		row{down + "main int { print 1; return f(" + n(many) + "); }", "1", api.ErrCalls, "", 2 + 3*many + 1},
		row{down + "main int { print f(" + n(many-1) + "); print f(" + n(many-1) + "); return f(" + n(many) + "); }", "499|499", api.ErrCalls, "", 3 + 2*3*many + 3*many + 1}, // those that have returned are not open
		row{"type A = {x int;}; method A.m(n int) int { if n < 1 { return 0; } return A{x: 1}.m(n - 1); } main int { return A{x: 1}.m(" + n(many-1) + "); }", "", api.OK, "0", 1 + 3*many},
		row{"type A = {x int;}; method A.m(n int) int { if n < 1 { return 0; } return A{x: 1}.m(n - 1); } main int { return A{x: 1}.m(" + n(many) + "); }", "", api.ErrCalls, "", 1 + 3*many + 1},
		row{"type A = {}; method A.m(n int) int { return f(n); } func f(n int) int { if n < 1 { return 0; } return A{}.m(n - 1); } main int { return A{}.m(" + n(many/2-1) + "); }", "", api.OK, "0", 1 + many/2*(2+3)}, // methods and functions together
		row{"type A = {}; method A.m(n int) int { return f(n); } func f(n int) int { if n < 1 { return 0; } return A{}.m(n - 1); } main int { return A{}.m(" + n(many/2) + "); }", "", api.ErrCalls, "", 1 + many/2*(2+3) + 1},
		row{"type A = {}; method A.m(n int) int { return n; } func f(n int) int { if n < 1 { return nil *A.m(n); } return f(n - 1); } main int { return f(" + n(many-1) + "); }", "", api.ErrNil, "", 1 + 3*many}, // nothing is called
		row{"func f(n int) int { return n; } main int { let i = 0; while i < 1000 { i = f(f(f(i))) + 1; } return i; }", "", api.OK, "1000", 1 + 1001 + 1000*7 + 1},
	)
}

// TestNeverReturns: a run ends with the first error that comes.
func TestNeverReturns(t *testing.T) {
	runs(t,
		row{"func f() int { return f(); } main int { return f(); }", "", api.ErrCalls, "", 1 + 2*api.MaxCalls + 1},
		row{"func f() int { print 1; while true { } return f(); } main int { return f(); }", "1", api.ErrFuel, "", api.MaxFuel},
		row{set + "func f(n int) I { if n == 5 { return nil *A; } return A{x: n}; } main int { let i = 0; while true { print f(i).m(); i = i + 1; } return 1; }", "0|1|2|3|4", api.ErrNil, "", 1 + 5*(2+3+2+1) + 2 + 3},
		row{set + "main int { let t T = 1; let i = 0; while true { print t to int; i = i + 1; if i == 3 { t = true; } } return 1; }", "1|1|1", api.ErrDown, "", 2 + 3*4 + 1 + 2},
	)
}
