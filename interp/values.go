package interp

import (
	"coil/api"
	"coil/check"
)

// number is an int as an expression's value.
func number(x *check.Expr, n int) api.Value {
	return api.Value{Kind: api.VInt, Class: x.Class, N: n}
}

// truth is a bool as an expression's value.
func truth(x *check.Expr, ok bool) api.Value {
	v := api.Value{Kind: api.VBool, Class: x.Class}
	if ok {
		v.N = 1
	}
	return v
}

// text is a text as an expression's value: api.ErrBig, if it is too long, whether it was joined or is written so.
func text(x *check.Expr, s string) (api.Value, api.Errno) {
	if len(s) > api.MaxString {
		return api.Value{}, api.ErrBig
	}
	return api.Value{Kind: api.VText, Class: x.Class, S: s}, api.OK
}

func isTrue(v api.Value) bool { return v.N == 1 }

// combine answers what a sign or word makes of two values.
func combine(x *check.Expr, a, b api.Value) (api.Value, api.Errno) {
	switch x.Kind {
	case api.XMul:
		return number(x, a.N*b.N), api.OK
	case api.XSub:
		return number(x, a.N-b.N), api.OK
	case api.XAdd:
		if a.Kind == api.VText {
			return text(x, a.S+b.S)
		}
		return number(x, a.N+b.N), api.OK
	case api.XEq:
		return truth(x, a.N == b.N && a.S == b.S), api.OK
	case api.XLess:
		return truth(x, a.N < b.N || a.S < b.S), api.OK
	}
	return b, api.OK // of and, or: the first one doesn't decide
}
