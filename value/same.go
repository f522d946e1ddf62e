package value

import "coil/api"

// comparison holds the pairs of lists that have been compared, or are being compared: all of them are the same, or it is
// over.
type comparison map[[2]list]struct{}

func (c comparison) same(a, b *api.Value) bool {
	if a.Kind != b.Kind || a.Class != b.Class || a.N != b.N || a.S != b.S || len(a.Parts) != len(b.Parts) {
		return false
	}
	return len(a.Parts) == 0 || c.allSame(a.Parts, b.Parts)
}

// allSame compares lists of one length, which isn't 0.
func (c comparison) allSame(a, b []api.Value) bool {
	pair := [2]list{listOf(a), listOf(b)}
	if _, met := c[pair]; met {
		return true
	}
	c[pair] = struct{}{}
	for i := range a {
		if !c.same(&a[i], &b[i]) {
			return false
		}
	}
	return true
}
