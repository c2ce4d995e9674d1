package plain

import (
	"math"
	"slices"

	"sparsetree/api"
)

// Formed returns the well-formed proof of a kind with siblings at some ascending depths, the last of which is Depth - 1.
func Formed(kind int, depths ...int) api.Proof {
	p := api.Proof{Kind: kind}
	if kind == 1 {
		p.Leaf = api.Leaf{Key: Scattered(1, 1)[0], Value: api.Digest(Scattered(2, 1)[0])}
	}
	for _, d := range depths {
		p.Bitmap[d/8] |= 128 >> (d % 8)
		p.Depth = d + 1
	}
	p.Siblings = Digests(len(depths))
	return p
}

// Digests returns different digests.
func Digests(n int) []api.Digest {
	l := make([]api.Digest, n)
	for i, k := range Scattered(3, n) {
		l[i] = api.Digest(k)
	}
	return l
}

// DepthLists returns ascending lists of depths: of none, of one, of some, and of all.
func DepthLists() [][]int {
	l := [][]int{nil, {0, 1}, {0, 7}, {7, 8}, {3, 100}, {0, 255}, {254, 255}, {0, 1, 2, 50, 128, 200, 253}, From(0, 254), From(0, 255), From(1, 255), From(100, 200)}
	for _, d := range []int{0, 1, 6, 7, 8, 9, 100, 127, 128, 253, 254, 255} {
		l = append(l, []int{d})
	}
	return l
}

// OfEachDepth returns well-formed proofs of each depth and kind, with siblings at all depths, and at the last one only.
func OfEachDepth() []api.Proof {
	var l []api.Proof
	for kind := range 2 {
		l = append(l, Formed(kind))
		for d := range 256 {
			l = append(l, Formed(kind, From(0, d)...), Formed(kind, d))
		}
	}
	return l
}

// GoodProofs returns well-formed proofs.
func GoodProofs() []api.Proof {
	l := []api.Proof{{}, {Kind: 1}, {Siblings: []api.Digest{}}}
	for _, depths := range DepthLists() {
		l = append(l, Formed(0, depths...), Formed(1, depths...))
	}
	return l
}

// BadKinds returns kinds that a proof must not have: next to the two that it may have, those of other things, and ones whose low bits are those of 0 and 1.
func BadKinds() []int {
	return []int{-1, api.Inner, api.Sibling, 4, -2, 255, 256, 257, -256, -255, 1 << 31, 1 << 32, 1<<32 + 1, math.MinInt, math.MinInt + 1, math.MaxInt - 1, math.MaxInt}
}

// SomeDepths returns depths in, next to and far from the range from 0 to 256.
func SomeDepths() []int {
	return []int{0, 1, 2, 7, 8, 9, 100, 101, 127, 128, 129, 254, 255, 256, -1, -2, -256, 257, 258, 512, 1 << 32, 1<<32 + 1, math.MinInt, math.MinInt + 1, math.MaxInt - 1, math.MaxInt}
}

// SomeLeaves returns the zero leaf, and such that are not zero in their key only, in their digest only, and in both.
func SomeLeaves() []api.Leaf {
	return []api.Leaf{{}, {Key: api.Key{128}}, {Key: api.Key{31: 1}}, {Value: api.Digest{128}}, {Value: api.Digest{31: 1}}, {Key: api.Key{16: 1}, Value: api.Digest{15: 1}}}
}

// CopyOf returns a proof whose Siblings are new, without proof.Clone.
func CopyOf(p api.Proof) api.Proof {
	p.Siblings = append([]api.Digest{}, p.Siblings...)
	return p
}

// SameProof compares two proofs without proof.Equal.
func SameProof(p, q api.Proof) bool {
	return p.Kind == q.Kind && p.Depth == q.Depth && p.Leaf == q.Leaf && p.Bitmap == q.Bitmap && slices.Equal(p.Siblings, q.Siblings)
}

// EndOf tells at what the way of a key ends, according to its proof.
func EndOf(p api.Proof, k api.Key) string {
	switch {
	case p.Kind == api.Empty:
		return "empty"
	case p.Leaf.Key == k:
		return "the key"
	}
	return "another key"
}

// Broken is a proof that is not well-formed for a single reason.
type Broken struct {
	Name  string
	Proof api.Proof
	Errno api.Errno
}

// Breaks returns what is made of a well-formed proof by breaking a single condition.
func Breaks(p api.Proof) []Broken {
	var l []Broken
	add := func(name string, errno api.Errno, change func(q *api.Proof)) {
		q := CopyOf(p)
		change(&q)
		l = append(l, Broken{name, q, errno})
	}
	for _, kind := range BadKinds() {
		add("kind", api.ErrKind, func(q *api.Proof) { q.Kind = kind })
	}
	for _, depth := range append(SomeDepths(), p.Depth-1, p.Depth+1) {
		if depth != p.Depth {
			add("depth", api.ErrForm, func(q *api.Proof) { q.Depth = depth })
		}
	}
	if p.Kind == 0 {
		for _, leaf := range SomeLeaves()[1:] {
			add("leaf", api.ErrForm, func(q *api.Proof) { q.Leaf = leaf })
		}
	}
	for d := p.Depth; d < 256; d++ {
		add("a depth too great", api.ErrForm, func(q *api.Proof) {
			q.Bitmap[d/8] |= 128 >> (d % 8)
			q.Siblings = append(q.Siblings, api.Digest{})
		})
	}
	add("one Sibling too many", api.ErrForm, func(q *api.Proof) { q.Siblings = append(q.Siblings, api.Digest{}) })
	add("far too many Siblings", api.ErrForm, func(q *api.Proof) { q.Siblings = Digests(300) })
	if p.Depth > 0 {
		add("without the last depth", api.ErrForm, func(q *api.Proof) {
			q.Bitmap[(p.Depth-1)/8] &^= 128 >> ((p.Depth - 1) % 8)
			q.Siblings = q.Siblings[1:]
		})
		add("one Sibling too few", api.ErrForm, func(q *api.Proof) { q.Siblings = q.Siblings[1:] })
		add("no Siblings", api.ErrForm, func(q *api.Proof) { q.Siblings = []api.Digest{} })
		add("nil Siblings", api.ErrForm, func(q *api.Proof) { q.Siblings = nil })
		add("an empty Bitmap", api.ErrForm, func(q *api.Proof) { q.Bitmap = [32]byte{} })
	}
	return l
}

// AnyProofs returns proofs that are well-formed, and others.
func AnyProofs() []api.Proof {
	l := GoodProofs()
	for _, p := range []api.Proof{{}, Formed(1, 0), Formed(0, 3, 100), Formed(1, From(0, 255)...)} {
		for _, b := range Breaks(p) {
			l = append(l, b.Proof)
		}
	}
	return l
}

// Changed returns the proofs whose Siblings, or what is behind them, a function changes.
func Changed(call func(p api.Proof)) []api.Proof {
	var l []api.Proof
	for _, p := range AnyProofs() {
		whole := append(slices.Clone(p.Siblings), Digests(2)...)
		before := slices.Clone(whole)
		given := p
		given.Siblings = whole[:len(p.Siblings)]
		call(given)
		if !slices.Equal(whole, before) {
			l = append(l, p)
		}
	}
	return l
}
