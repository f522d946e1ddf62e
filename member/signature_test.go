package member_test

import (
	"math"
	"testing"

	"coil/api"
	"coil/member"
)

// TestSignature: P7.4, of members that Lookup finds.
func TestSignature(t *testing.T) {
	c := made(t, runs+"type G = {f fn(int) A; embed d A;}; method G.g(x A, y int) bool {}", "*G")
	for _, x := range []struct{ of, name, want string }{
		{"A", "m", "fn() int"}, {"B", "m", "fn() int"}, {"I", "m", "fn() int"}, {"F", "m", "fn() int"}, {"*G", "g", "fn(A, int) bool"}, {"G", "m", "fn() int"},
		{"A", "x", ""}, {"B", "a", ""}, {"G", "f", ""}, {"G", "d", ""}, {"F", "i", ""},
	} {
		want := -1
		if x.want != "" {
			want = at(t, c, x.want)
		}
		m, why := member.Lookup(c, at(t, c, x.of), x.name)
		if got := member.Signature(c, m); got != want || why != api.OK {
			t.Errorf("%s %s: %d, not %d", x.of, x.name, got, want)
		}
		if got := member.Signature(nil, m); got != -1 {
			t.Errorf("%s %s: %d of nil classes", x.of, x.name, got)
		}
	}
}

// TestSignatureOfOthers: P7.4, of members that Lookup didn't make: the kind and the Node alone tell.
func TestSignatureOfOthers(t *testing.T) {
	c := made(t, runs+"type G = fn(int, A) text;", "*G", "bool", "text")
	fn := at(t, c, "G")
	for _, kind := range []int{api.MMethod, api.MIface} {
		for _, m := range []api.Member{
			{Kind: kind, Node: fn},
			{Kind: kind, Node: fn, Path: []string{"no", "path"}, Owner: "Nobody", Name: "nothing"},
			{Kind: kind, Node: fn, Path: []string{}, Owner: "A", Name: "m"},
		} {
			if got := member.Signature(c, m); got != fn {
				t.Errorf("%+v: %d, not %d", m, got, fn)
			}
		}
		for _, src := range []string{"int", "A", "I", "*A", "*G", "bool", "text", "F"} {
			if got := member.Signature(c, api.Member{Kind: kind, Owner: "A", Name: "m", Node: at(t, c, src)}); got != -1 {
				t.Errorf("%s: %d", src, got)
			}
		}
		for _, node := range []int{-1, -2, c.Len(), c.Len() + 1, 9999, math.MaxInt, math.MinInt} {
			if got := member.Signature(c, api.Member{Kind: kind, Owner: "A", Name: "m", Node: node}); got != -1 {
				t.Errorf("%d: %d", node, got)
			}
		}
	}
	for _, kind := range []int{0, api.MField, api.MIface + 1, -1, api.TFn, math.MaxInt, math.MinInt} {
		if got := member.Signature(c, api.Member{Kind: kind, Owner: "A", Name: "m", Node: fn}); got != -1 {
			t.Errorf("kind %d: %d", kind, got)
		}
	}
	if got := member.Signature(c, api.Member{}); got != -1 {
		t.Error(got)
	}
	if got := member.Signature(made(t, ""), api.Member{Kind: api.MIface}); got != -1 {
		t.Error(got)
	}
	if got := member.Signature(made(t, "type A = fn() A;"), api.Member{Kind: api.MIface}); got != 0 { // class 0 is one
		t.Error(got)
	}
}
