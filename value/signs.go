package value

import "coil/api"

// OfInt is an int of that class.
func OfInt(class, n int) api.Value { return api.Value{Kind: api.VInt, Class: class, N: n} }

// OfBool is a bool of that class.
func OfBool(class int, ok bool) api.Value {
	v := api.Value{Kind: api.VBool, Class: class}
	if ok {
		v.N = 1
	}
	return v
}

// OfText is a text of that class: api.ErrBig, if it is too long for one.
func OfText(class int, s string) (api.Value, api.Errno) {
	if len(s) > api.MaxString {
		return api.Value{}, api.ErrBig
	}
	return api.Value{Kind: api.VText, Class: class, S: s}, api.OK
}

// True tells of a bool which one it is.
func True(v api.Value) bool { return v.N == 1 }

// Unary is what the sign or word of an expression of that kind and class makes of a value.
func Unary(kind, class int, v api.Value) api.Value {
	if kind == api.XNeg {
		return OfInt(class, -v.N)
	}
	return OfBool(class, !True(v))
}

// Binary is what the sign or word of an expression of that kind and class makes of two values. (Of and, or it is the second:
// they are not asked, where the first one decides.)
func Binary(kind, class int, a, b api.Value) (api.Value, api.Errno) {
	switch kind {
	case api.XMul:
		return OfInt(class, a.N*b.N), api.OK
	case api.XSub:
		return OfInt(class, a.N-b.N), api.OK
	case api.XAdd:
		if a.Kind == api.VText {
			return OfText(class, a.S+b.S)
		}
		return OfInt(class, a.N+b.N), api.OK
	case api.XEq:
		return OfBool(class, a.N == b.N && a.S == b.S), api.OK
	case api.XLess:
		return OfBool(class, a.N < b.N || a.S < b.S), api.OK
	}
	return b, api.OK
}
