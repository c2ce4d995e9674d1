package plain

import (
	"bytes"
	"strconv"

	"sparsetree/api"
	"sparsetree/digest"
	"sparsetree/node"
)

// Leaves returns the entries of a subtree from the left to the right.
func Leaves(n *node.Node) []api.Entry {
	switch n.Kind() {
	case api.Empty:
		return nil
	case api.Full:
		return []api.Entry{n.Entry()}
	}
	return append(Leaves(n.Left()), Leaves(n.Right())...)
}

// Difference tells where two subtrees are not alike, in their shape, their keys and values, or their digests; it returns an empty string if they are.
func Difference(h *digest.Hasher, got, want *node.Node) string {
	switch {
	case got == want:
		return ""
	case got.Kind() != want.Kind():
		return "kind " + strconv.Itoa(got.Kind()) + ", want " + strconv.Itoa(want.Kind())
	case got.Len() != want.Len():
		return strconv.Itoa(got.Len()) + " keys, want " + strconv.Itoa(want.Len())
	case got.Kind() == api.Full && got.Leaf().Key != want.Leaf().Key:
		return "a leaf with another key"
	case !bytes.Equal(got.Entry().Value, want.Entry().Value) || got.Leaf() != want.Leaf():
		return "a leaf with another value"
	case node.Digest(h, got) != node.Digest(h, want):
		return "another digest, first to the left: " + Difference(h, got.Left(), want.Left()) + ", to the right: " + Difference(h, got.Right(), want.Right())
	}
	if d := Difference(h, got.Left(), want.Left()); d != "" {
		return "left, " + d
	}
	if d := Difference(h, got.Right(), want.Right()); d != "" {
		return "right, " + d
	}
	return ""
}

// EachQuery calls a function with the tree of each map and with keys that are in the map, and others, with digests of several numbers of bits.
func EachQuery(bits []int, call func(h *digest.Hasher, m Map, n *node.Node, k api.Key)) {
	for _, b := range bits {
		h := Hasher(b)
		for _, m := range Maps() {
			n := m.Tree(h)
			for _, k := range m.Queries() {
				call(h, m, n, k)
			}
		}
	}
}
