package plain

import (
	"slices"

	"sparsetree/api"
)

// Sum is a function that computes digests.
type Sum func(b []byte) api.Digest

// Of returns the digest of a byte and the parts behind it.
func (sum Sum) Of(first byte, parts ...[]byte) api.Digest {
	return sum(slices.Concat([]byte{first}, slices.Concat(parts...)))
}

// Leaf returns the leaf of an entry, as chapter 6 says it.
func (sum Sum) Leaf(e api.Entry) api.Leaf { return api.Leaf{Key: e.Key, Value: sum.Of(2, e.Value)} }

// Subtree returns the digest of the subtree of members at a depth, as chapters 7 and 8 say it.
func (sum Sum) Subtree(l []Member, depth int) api.Digest {
	switch len(l) {
	case 0:
		return sum.Of(3)
	case 1:
		leaf := sum.Leaf(l[0].Entry)
		return sum.Of(0, leaf.Key[:], leaf.Value[:])
	}
	zeros := 0
	for zeros < len(l) && l[zeros].Text[depth] == '0' {
		zeros++
	}
	left, right := sum.Subtree(l[:zeros], depth+1), sum.Subtree(l[zeros:], depth+1)
	return sum.Of(1, left[:], right[:])
}
