package proof

import (
	"crypto/sha256"
	"math"
	"slices"
	"strings"
	"sync"
	"testing"

	"sparsetree/api"
	"sparsetree/digest"
	"sparsetree/internal/plain"
	"sparsetree/node"
	"sparsetree/tree"
)

// sumOf returns the function that computes digests of a number of bits, without a hasher.
func sumOf(bits int) plain.Sum {
	return func(b []byte) api.Digest { return digest.Cut(sha256.Sum256(b), bits) }
}

// leafOf returns the leaf of an entry.
func leafOf(bits int, e api.Entry) api.Leaf { return sumOf(bits).Leaf(e) }

// digestOf returns the digest of the subtree of members at a depth.
func digestOf(bits int, l []plain.Member, depth int) api.Digest {
	return sumOf(bits).Subtree(l, depth)
}

// siblings returns the members beside the way of a key, for each depth.
func siblings(m plain.Map, k api.Key) [][]plain.Member {
	below := m.Prefixes(k)
	l := make([][]plain.Member, m.Depth(k))
	for d := range l {
		l[d] = plain.Begin(below[d], plain.Text(plain.Flipped(k, d))[:d+1])
	}
	return l
}

// describe returns the proof of a map for a key, as the chapter says it, from the list of the keys.
func describe(bits int, m plain.Map, k api.Key) api.Proof {
	p := api.Proof{Depth: m.Depth(k)}
	if end := m.Prefixes(k)[p.Depth]; len(end) == 1 {
		p.Kind, p.Leaf = 1, leafOf(bits, end[0].Entry)
	}
	for d, beside := range siblings(m, k) {
		if len(beside) > 0 {
			p.Bitmap[d/8] |= 128 >> (d % 8)
			p.Siblings = append(p.Siblings, digestOf(bits, beside, d+1))
		}
	}
	return p
}

// eachProof calls a function with the proof that Prove returns for keys that are in a map, and for others, with digests of several numbers of bits.
func eachProof(bits []int, call func(h *digest.Hasher, m plain.Map, k api.Key, p api.Proof)) {
	plain.EachQuery(bits, func(h *digest.Hasher, m plain.Map, n *node.Node, k api.Key) {
		call(h, m, k, Prove(h, n, k))
	})
}

// P15.1
func TestProveDescribesTheWay(t *testing.T) {
	eachProof(plain.Bits(), func(h *digest.Hasher, m plain.Map, k api.Key, p api.Proof) {
		if want := describe(h.Bits(), m, k); !plain.SameProof(p, want) {
			t.Fatalf("%d bits, %s: Prove of %x = %x, want %x", h.Bits(), m.Name, k, p, want)
		}
	})
}

// P15.1: the way in the empty map ends at its beginning.
func TestProveOfTheEmptyMap(t *testing.T) {
	for _, bits := range plain.Bits() {
		for _, k := range plain.Keys() {
			if p := Prove(plain.Hasher(bits), nil, k); !plain.SameProof(p, api.Proof{}) {
				t.Errorf("%d bits: Prove of %x = %x", bits, k, p)
			}
		}
	}
}

// P15.1: all ways in the map of one key end at its leaf.
func TestProveOfOneKey(t *testing.T) {
	for _, bits := range plain.Bits() {
		h := plain.Hasher(bits)
		for _, k := range plain.Keys() {
			m := plain.OfKeys("one", k)
			for _, other := range plain.Neighbours(k) {
				if p := Prove(h, m.Tree(h), other); !plain.SameProof(p, api.Proof{Kind: 1, Leaf: leafOf(bits, m.Entries()[0])}) {
					t.Fatalf("%d bits: Prove of %x in the map of %x = %x", bits, other, k, p)
				}
			}
		}
	}
}

// P15.1: two keys that differ in one bit, from the first to the last one, and other keys that leave their way before and behind.
func TestProveOfTwoKeys(t *testing.T) {
	h := plain.Hasher(256)
	a := plain.Filled(0x96)
	for i := range 256 {
		b := plain.Flipped(a, i)
		m := plain.OfKeys("two", a, b)
		for _, k := range []api.Key{a, b, plain.Flipped(a, 0), plain.Flipped(b, i/2), plain.Flipped(b, 255), plain.Flipped(a, min(255, i+1))} {
			got, want := Prove(h, m.Tree(h), k), describe(256, m, k)
			if !plain.SameProof(got, want) || len(got.Siblings) != 1 || got.Depth > i+1 {
				t.Fatalf("keys that differ in bit %d: Prove of %x = %x, want %x", i, k, got, want)
			}
		}
	}
}

// P15.1: siblings at all depths of the longest way, and at the last one only.
func TestProveOfTheLongestWay(t *testing.T) {
	h := plain.Hasher(256)
	for _, k := range plain.Keys() {
		full := Prove(h, plain.OfKeys("beside", plain.Neighbours(k)...).Tree(h), k)
		if full.Kind != 1 || full.Depth != 256 || full.Leaf.Key != k || api.Key(full.Bitmap) != plain.Filled(255) || len(full.Siblings) != 256 {
			t.Errorf("Prove of %x = %x", k, full)
		}
		last := Prove(h, plain.OfKeys("last", k, plain.Flipped(k, 255)).Tree(h), k)
		if last.Kind != 1 || last.Depth != 256 || last.Leaf.Key != k || last.Bitmap != [32]byte{31: 1} || len(last.Siblings) != 1 {
			t.Errorf("Prove of %x = %x", k, last)
		}
	}
}

// P15.1: the three ends of ways, and siblings that are empty, leaves and inner nodes, in the map of the first bytes 0, 64 and 96.
func TestProveOfEachEnd(t *testing.T) {
	const bits = 12
	h := plain.Hasher(bits)
	m := plain.OfKeys("0, 64, 96", api.Key{}, api.Key{64}, api.Key{96})
	e := m.Entries()
	one := func(i int) api.Digest { return digestOf(bits, m.Members[i:i+1], 0) }
	for _, c := range []struct {
		first byte
		want  api.Proof
	}{
		{0, api.Proof{Kind: 1, Depth: 2, Leaf: leafOf(bits, e[0]), Bitmap: [32]byte{64}, Siblings: []api.Digest{digestOf(bits, m.Members[1:], 2)}}},
		{1, api.Proof{Kind: 1, Depth: 2, Leaf: leafOf(bits, e[0]), Bitmap: [32]byte{64}, Siblings: []api.Digest{digestOf(bits, m.Members[1:], 2)}}},
		{64, api.Proof{Kind: 1, Depth: 3, Leaf: leafOf(bits, e[1]), Bitmap: [32]byte{96}, Siblings: []api.Digest{one(0), one(2)}}},
		{96, api.Proof{Kind: 1, Depth: 3, Leaf: leafOf(bits, e[2]), Bitmap: [32]byte{96}, Siblings: []api.Digest{one(0), one(1)}}},
		{127, api.Proof{Kind: 1, Depth: 3, Leaf: leafOf(bits, e[2]), Bitmap: [32]byte{96}, Siblings: []api.Digest{one(0), one(1)}}},
		{128, api.Proof{Kind: 0, Depth: 1, Bitmap: [32]byte{128}, Siblings: []api.Digest{digestOf(bits, m.Members, 1)}}},
	} {
		if p := Prove(h, m.Tree(h), api.Key{c.first}); !plain.SameProof(p, c.want) {
			t.Errorf("Prove of %d = %x, want %x", c.first, p, c.want)
		}
	}
}

// P15.1 and rule 4 of the document: proofs may be changed, with what is behind their Siblings, and the tree is as before.
func TestProofsShareNoMemory(t *testing.T) {
	h := plain.Hasher(256)
	for _, m := range plain.Maps() {
		n := m.Tree(h)
		for _, k := range m.Queries()[:10] {
			p, kept := Prove(h, n, k), Prove(h, n, k)
			clear(p.Siblings[:cap(p.Siblings)])
			if want := describe(256, m, k); !plain.SameProof(kept, want) || !plain.SameProof(Prove(h, n, k), want) {
				t.Fatalf("%s: the proof of %x is changed", m.Name, k)
			}
		}
		if d := plain.Difference(h, n, m.Tree(h)); d != "" {
			t.Fatalf("%s: the tree is changed: %s", m.Name, d)
		}
	}
}

// P15.1: the tree of a layer below gives the same proofs, and its map is as before.
func TestProveOfATree(t *testing.T) {
	for _, m := range plain.Fives() {
		x, _ := tree.New(256)
		for _, e := range m.Mixed() {
			if err := x.Put(e.Key[:], e.Value); err != nil {
				t.Fatal(err)
			}
		}
		root := x.Root()
		for _, k := range m.Queries() {
			if p := Prove(x.Hasher(), x.Node(), k); !plain.SameProof(p, describe(256, m, k)) {
				t.Errorf("%s: Prove of %x = %x", m.Name, k, p)
			}
		}
		if x.Root() != root || root != digestOf(256, m.Members, 0) || !slices.EqualFunc(x.Entries(), m.Entries(), plain.Same) {
			t.Errorf("%s: the map is changed", m.Name)
		}
	}
}

// expected tells what Check of a proof returns, as the chapter says it.
func expected(p api.Proof) api.Errno {
	if p.Kind != 0 && p.Kind != 1 {
		return 7
	}
	depths := plain.Text(api.Key(p.Bitmap))
	switch {
	case p.Depth < 0 || p.Depth > 256:
		return 5
	case p.Kind == 0 && (p.Leaf.Key != api.Key{} || p.Leaf.Value != api.Digest{}):
		return 5
	case strings.Contains(depths[p.Depth:], "1"):
		return 5
	case p.Depth > 0 && depths[p.Depth-1] != '1':
		return 5
	case strings.Count(depths, "1") != len(p.Siblings):
		return 5
	}
	return 0
}

// P15.2
func TestCheckOfWellFormedProofs(t *testing.T) {
	for _, p := range plain.GoodProofs() {
		if errno := Check(p); errno != api.OK {
			t.Errorf("%x: %v", p, errno)
		}
	}
	for d := range 257 {
		for kind := range 2 {
			if errno := Check(plain.Formed(kind, plain.From(0, d-1)...)); errno != api.OK {
				t.Errorf("kind %d, all depths before %d: %v", kind, d, errno)
			}
		}
	}
}

// P15.2
func TestCheckOfEachCondition(t *testing.T) {
	for _, p := range plain.GoodProofs() {
		for _, b := range plain.Breaks(p) {
			if errno := Check(b.Proof); errno != b.Errno {
				t.Errorf("%s: %x: %v, want %v", b.Name, b.Proof, errno, b.Errno)
			}
		}
	}
}

// P15.2: several conditions that are broken at the same time, of which the kind comes first.
func TestCheckReturnsErrKindFirst(t *testing.T) {
	for _, p := range plain.GoodProofs() {
		for _, b := range plain.Breaks(p) {
			for _, kind := range plain.BadKinds() {
				b.Proof.Kind = kind
				if errno := Check(b.Proof); errno != api.ErrKind {
					t.Fatalf("kind and %s: %x: %v", b.Name, b.Proof, errno)
				}
			}
		}
	}
}

// P15.2: conditions in each combination.
func TestCheckOfEveryCombination(t *testing.T) {
	found, seen := map[api.Errno]int{}, plain.Digests(300)
	for _, depths := range plain.DepthLists() {
		p := plain.Formed(1, depths...)
		for _, kind := range append(plain.BadKinds(), 0, 1) {
			for _, depth := range append(plain.SomeDepths(), p.Depth) {
				for _, leaf := range plain.SomeLeaves() {
					for _, n := range []int{0, 1, len(depths), len(depths) + 1, max(0, len(depths)-1), 255, 256, 257} {
						q := api.Proof{Kind: kind, Depth: depth, Leaf: leaf, Bitmap: p.Bitmap, Siblings: seen[:n]}
						errno := Check(q)
						found[errno]++
						if want := expected(q); errno != want {
							t.Fatalf("kind %d, depth %d, leaf %x, depths %v, %d Siblings: %v, want %v", kind, depth, leaf, depths, n, errno, want)
						}
					}
				}
			}
		}
	}
	if len(found) != 3 || !slices.Equal(seen, plain.Digests(300)) {
		t.Errorf("errors %v, or the Siblings are changed", found)
	}
}

// checkSupports checks Supports of a proof for a key and a digest, present and not.
func checkSupports(t *testing.T, p api.Proof, k api.Key, value api.Digest) {
	t.Helper()
	at, own := plain.Text(p.Leaf.Key), plain.Text(k)
	common := 0
	for common < 256 && at[common] == own[common] {
		common++
	}
	if want := p.Kind == 1 && common == 256 && p.Leaf.Value == value; Supports(p, k, value, true) != want {
		t.Fatalf("%x: the key %x with the digest %x: want %v", p, k, value, want)
	}
	if want := p.Kind == 0 || p.Kind == 1 && common < 256 && common >= p.Depth; Supports(p, k, value, false) != want {
		t.Fatalf("%x: the key %x, with %d bits in common, is absent: want %v", p, k, common, want)
	}
}

// P15.3: keys that have each number of bits in common with the leaf, and depths around this number.
func TestSupportsOfEachLength(t *testing.T) {
	value := api.Digest(plain.Filled(7))
	for _, at := range plain.Keys() {
		for i := range 256 {
			for _, depth := range append(plain.SomeDepths(), i-1, i, i+1) {
				p := api.Proof{Kind: 1, Depth: depth, Leaf: api.Leaf{Key: at, Value: value}}
				checkSupports(t, p, at, value)
				checkSupports(t, p, plain.Flipped(at, i), value)
				checkSupports(t, p, plain.Flipped(at, i, 255-i/2), api.Digest{})
				checkSupports(t, p, plain.Flipped(at, plain.From(i, 255)...), value)
			}
		}
	}
}

// P15.3: the right digest, and ones that differ in a single bit, for both kinds and for others.
func TestSupportsOfEachDigest(t *testing.T) {
	right := plain.Scattered(5, 1)[0]
	for _, kind := range append(plain.BadKinds(), 0, 1) {
		for _, k := range plain.Keys() {
			for _, depth := range []int{math.MinInt, -1, 0, 1, 128, 255, 256, 257, math.MaxInt} {
				p := api.Proof{Kind: kind, Depth: depth, Leaf: api.Leaf{Key: k, Value: api.Digest(right)}}
				for _, value := range append(plain.Neighbours(right), api.Key{}) {
					checkSupports(t, p, k, api.Digest(value))
					checkSupports(t, p, plain.Flipped(k, 200), api.Digest(value))
				}
			}
		}
	}
}

// P15.3: zeros at the end of a proof are a leaf only if its kind says so.
func TestSupportsOfZeros(t *testing.T) {
	for _, kind := range append(plain.BadKinds(), 0, 1) {
		for _, k := range plain.Neighbours(api.Key{}) {
			for _, depth := range plain.SomeDepths() {
				checkSupports(t, api.Proof{Kind: kind, Depth: depth}, k, api.Digest{})
				checkSupports(t, api.Proof{Kind: kind, Depth: depth}, k, api.Digest{1})
			}
		}
	}
}

// P15.3: neither the Bitmap nor the Siblings matter, as in proofs that are not well-formed.
func TestSupportsOfMalformedProofs(t *testing.T) {
	for _, p := range plain.GoodProofs() {
		for _, b := range plain.Breaks(p) {
			for _, k := range []api.Key{p.Leaf.Key, plain.Flipped(p.Leaf.Key, 0), plain.Flipped(p.Leaf.Key, 255), {}} {
				checkSupports(t, b.Proof, k, p.Leaf.Value)
				checkSupports(t, b.Proof, k, api.Digest{9})
			}
		}
	}
}

// P15.4: clones of a proof are changed, and the proof is changed; no change is seen elsewhere.
func TestClonesAreIndependent(t *testing.T) {
	for _, p := range plain.AnyProofs() {
		want := plain.CopyOf(p)
		a, b, c := Clone(p), Clone(p), Clone(Clone(p))
		if !plain.SameProof(p, want) || !plain.SameProof(a, want) || !plain.SameProof(b, want) || !plain.SameProof(c, want) {
			t.Fatalf("%x: the clones %x, %x, %x", want, a, b, c)
		}
		clear(a.Siblings[:cap(a.Siblings)])
		a.Siblings = append(a.Siblings, api.Digest{1}, api.Digest{2})
		a.Kind, a.Depth, a.Leaf, a.Bitmap = -9, -9, api.Leaf{Key: api.Key{9}}, [32]byte{9}
		if !plain.SameProof(p, want) || !plain.SameProof(b, want) || !plain.SameProof(c, want) {
			t.Fatalf("%x: after a clone was changed: %x, %x, %x", want, p, b, c)
		}
		clear(p.Siblings)
		_ = append(p.Siblings, api.Digest{3})
		if !plain.SameProof(b, want) || !plain.SameProof(c, want) {
			t.Fatalf("%x: after the proof was changed: %x, %x", want, b, c)
		}
	}
}

// P15.4 and rule 4 of the document: what is behind the length of the Siblings is neither read nor written.
func TestCloneAndEqualKeepToTheLength(t *testing.T) {
	for n := range 4 {
		l, other := plain.Digests(6), append(plain.Digests(n), plain.Digests(9)[5:]...)
		p, q := api.Proof{Siblings: l[:n]}, api.Proof{Siblings: other[:n]}
		c := Clone(p)
		_ = append(c.Siblings, api.Digest{7})
		if !slices.Equal(l, plain.Digests(6)) || !plain.SameProof(c, p) || !Equal(p, q) || !Equal(c, q) || !Equal(p, api.Proof{Siblings: plain.Digests(n)}) {
			t.Errorf("%d Siblings: %x, %x", n, l, c)
		}
		if Equal(api.Proof{Siblings: l[:n]}, api.Proof{Siblings: l[:n+1]}) || Equal(api.Proof{Siblings: l[:n+1]}, api.Proof{Siblings: l[:n]}) {
			t.Errorf("%d Siblings and one more are equal", n)
		}
	}
}

// checkEqual checks Equal of two proofs, in both orders.
func checkEqual(t *testing.T, name string, p, q api.Proof, want bool) {
	t.Helper()
	before, after := plain.CopyOf(p), plain.CopyOf(q)
	if Equal(p, q) != want || Equal(q, p) != want {
		t.Fatalf("%s: Equal of %x and %x: want %v", name, p, q, want)
	}
	if !plain.SameProof(p, before) || !plain.SameProof(q, after) {
		t.Fatalf("%s: Equal changed %x or %x", name, before, after)
	}
}

// P15.4
func TestEqualOfAllPairs(t *testing.T) {
	l := plain.AnyProofs()
	for i := 0; i < len(l); i += 2 {
		checkEqual(t, "itself", l[i], l[i], true)
		checkEqual(t, "a copy", l[i], plain.CopyOf(l[i]), true)
		checkEqual(t, "its clone", l[i], Clone(l[i]), true)
		for j := 0; j < len(l); j += 7 {
			checkEqual(t, "another one", l[i], l[j], plain.SameProof(l[i], l[j]))
		}
	}
	checkEqual(t, "nil and empty", api.Proof{}, api.Proof{Siblings: []api.Digest{}}, true)
	checkEqual(t, "nil and empty of a slice", api.Proof{Kind: 5}, api.Proof{Kind: 5, Siblings: plain.Digests(3)[:0]}, true)
}

// P15.4: proofs that differ in a single field, by as little as possible.
func TestEqualOfProofsThatDifferInOneField(t *testing.T) {
	for _, p := range plain.AnyProofs() {
		for name, change := range map[string]func(q *api.Proof){
			"kind, next":              func(q *api.Proof) { q.Kind++ },
			"kind, far":               func(q *api.Proof) { q.Kind ^= 1 << 32 },
			"depth, next":             func(q *api.Proof) { q.Depth-- },
			"depth, far":              func(q *api.Proof) { q.Depth ^= math.MinInt },
			"key, first bit":          func(q *api.Proof) { q.Leaf.Key[0] ^= 128 },
			"key, last bit":           func(q *api.Proof) { q.Leaf.Key[31] ^= 1 },
			"digest, first bit":       func(q *api.Proof) { q.Leaf.Value[0] ^= 128 },
			"digest, last bit":        func(q *api.Proof) { q.Leaf.Value[31] ^= 1 },
			"bitmap, first bit":       func(q *api.Proof) { q.Bitmap[0] ^= 128 },
			"bitmap, last bit":        func(q *api.Proof) { q.Bitmap[31] ^= 1 },
			"a Sibling more":          func(q *api.Proof) { q.Siblings = append(q.Siblings, api.Digest{}) },
			"a Sibling more in front": func(q *api.Proof) { q.Siblings = append([]api.Digest{{}}, q.Siblings...) },
		} {
			q := plain.CopyOf(p)
			change(&q)
			checkEqual(t, name, p, q, false)
		}
	}
}

// P15.4: Siblings that differ in a single bit, in their order, and in their number.
func TestEqualOfSiblings(t *testing.T) {
	for _, n := range []int{1, 2, 3, 256} {
		p := plain.Formed(1, plain.From(0, n-1)...)
		for i := range n {
			for _, bit := range []int{0, 1, 128, 254, 255} {
				q := plain.CopyOf(p)
				q.Siblings[i] = api.Digest(plain.Flipped(api.Key(q.Siblings[i]), bit))
				checkEqual(t, "a bit", p, q, false)
			}
			q := plain.CopyOf(p)
			q.Siblings = slices.Delete(q.Siblings, i, i+1)
			checkEqual(t, "one less", p, q, false)
		}
		q := plain.CopyOf(p)
		slices.Reverse(q.Siblings)
		checkEqual(t, "the order", p, q, n == 1)
		q.Siblings = nil
		checkEqual(t, "none", p, q, false)
	}
}

// expand returns the digests of all siblings of a well-formed proof, as the chapter says it.
func expand(bits int, p api.Proof) []api.Digest {
	var l []api.Digest
	next := 0
	for _, digit := range plain.Text(api.Key(p.Bitmap))[:p.Depth] {
		if digit == '0' {
			l = append(l, sumOf(bits).Of(3))
			continue
		}
		l = append(l, p.Siblings[next])
		next++
	}
	return l
}

// P15.5
func TestExpandOfWellFormedProofs(t *testing.T) {
	for _, bits := range plain.Bits() {
		h := plain.Hasher(bits)
		for _, p := range plain.GoodProofs() {
			if l, errno := Expand(h, p); errno != api.OK || !slices.Equal(l, expand(bits, p)) {
				t.Errorf("%d bits, %x: Expand = %x, %v", bits, p, l, errno)
			}
		}
	}
}

// P15.5: no siblings, those at all depths, at the last one only, and at some.
func TestExpandOfEachPlace(t *testing.T) {
	h := plain.Hasher(256)
	empty, d := sumOf(256).Of(3), plain.Digests(3)
	for _, c := range []struct {
		depths []int
		want   []api.Digest
	}{
		{nil, nil}, {[]int{0}, d[:1]}, {[]int{0, 1, 2}, d}, {[]int{1}, []api.Digest{empty, d[0]}},
		{[]int{0, 3}, []api.Digest{d[0], empty, empty, d[1]}}, {[]int{1, 2, 4}, []api.Digest{empty, d[0], d[1], empty, d[2]}},
		{plain.From(0, 255), plain.Digests(256)}, {[]int{255}, append(slices.Repeat([]api.Digest{empty}, 255), d[0])},
	} {
		for kind := range 2 {
			if l, errno := Expand(h, plain.Formed(kind, c.depths...)); errno != api.OK || !slices.Equal(l, c.want) {
				t.Errorf("kind %d, siblings at %v: Expand = %x, %v", kind, c.depths, l, errno)
			}
		}
	}
}

// P15.5: the siblings on the way of a key, in each map.
func TestExpandOfProve(t *testing.T) {
	eachProof([]int{0, 12, 256}, func(h *digest.Hasher, m plain.Map, k api.Key, p api.Proof) {
		l, errno := Expand(h, p)
		beside := siblings(m, k)
		if errno != api.OK || len(l) != len(beside) {
			t.Fatalf("%d bits, %s: Expand of the proof for %x: %d digests, %v", h.Bits(), m.Name, k, len(l), errno)
		}
		for d := range l {
			if l[d] != digestOf(h.Bits(), beside[d], d+1) {
				t.Fatalf("%d bits, %s: Expand of the proof for %x: %x at depth %d", h.Bits(), m.Name, k, l[d], d)
			}
		}
	})
}

// P15.5: a proof that is malformed has nothing but an error.
func TestExpandOfMalformedProofs(t *testing.T) {
	h := plain.Hasher(256)
	for _, p := range plain.GoodProofs() {
		for _, b := range plain.Breaks(p) {
			if l, errno := Expand(h, b.Proof); len(l) != 0 || errno != b.Errno {
				t.Errorf("%s: Expand of %x = %x, %v, want %v", b.Name, b.Proof, l, errno, b.Errno)
			}
			b.Proof.Kind = api.Inner
			if l, errno := Expand(h, b.Proof); len(l) != 0 || errno != api.ErrKind {
				t.Errorf("kind and %s: Expand of %x = %x, %v", b.Name, b.Proof, l, errno)
			}
		}
	}
}

// P15.5 and rule 4 of the document: the digests that were returned and the proof may be changed.
func TestExpandSharesNoMemory(t *testing.T) {
	h := plain.Hasher(256)
	for _, p := range plain.GoodProofs() {
		want := plain.CopyOf(p)
		l, _ := Expand(h, p)
		kept, _ := Expand(h, p)
		clear(l[:cap(l)])
		_ = append(l, api.Digest{1})
		if !plain.SameProof(p, want) {
			t.Fatalf("after the digests were changed: the proof %x, want %x", p, want)
		}
		clear(p.Siblings)
		if !slices.Equal(kept, expand(256, want)) {
			t.Fatalf("after the proof was changed: the digests %x", kept)
		}
	}
}

// Rule 4 of the document: no function changes a proof, or what is behind its Siblings.
func TestProofsAreNotChanged(t *testing.T) {
	h := plain.Hasher(256)
	for _, p := range plain.Changed(func(p api.Proof) {
		Check(p)
		Supports(p, p.Leaf.Key, p.Leaf.Value, true)
		Supports(p, api.Key{1}, p.Leaf.Value, false)
		Clone(p)
		Equal(p, p)
		Expand(h, p)
	}) {
		t.Errorf("%x is changed", p)
	}
}

// P15.6: proofs of a map are well-formed and support the claim that is true of the map, and no other claim about the key.
func TestProofsSupportWhatIsTrue(t *testing.T) {
	eachProof(plain.Bits(), func(h *digest.Hasher, m plain.Map, k api.Key, p api.Proof) {
		if errno := Check(p); errno != api.OK {
			t.Fatalf("%d bits, %s: the proof for %x has the error %v", h.Bits(), m.Name, k, errno)
		}
		var value api.Digest
		in := m.With(plain.Text(k))
		if len(in) == 1 {
			value = leafOf(h.Bits(), in[0].Entry).Value
		}
		if Supports(p, k, value, true) != (len(in) == 1) || Supports(p, k, value, false) != (len(in) == 0) {
			t.Fatalf("%d bits, %s: the proof for %x does not support exactly what is true", h.Bits(), m.Name, k)
		}
		for _, other := range []api.Digest{api.Digest(plain.Flipped(api.Key(value), 0)), api.Digest(plain.Flipped(api.Key(value), 255)), p.Leaf.Value, {}} {
			if Supports(p, k, other, true) != (len(in) == 1 && other == value) {
				t.Fatalf("%d bits, %s: the proof for %x, and the digest %x", h.Bits(), m.Name, k, other)
			}
			if Supports(p, k, other, false) != (len(in) == 0) {
				t.Fatalf("%d bits, %s: the digest %x matters to the absence of %x", h.Bits(), m.Name, other, k)
			}
		}
	})
}

// P15.6 and the fourth example of the document: a proof of absence supports that of all keys whose ways end at the same place.
func TestProofsSupportAbsenceAtTheSamePlace(t *testing.T) {
	eachProof([]int{256}, func(h *digest.Hasher, m plain.Map, k api.Key, p api.Proof) {
		for i := p.Depth; i < 256; i += 5 {
			other := plain.Flipped(k, i)
			in := len(m.With(plain.Text(other))) == 1
			if Supports(p, other, api.Digest{}, false) == in {
				t.Fatalf("%s: the proof for %x and the absence of %x", m.Name, k, other)
			}
		}
		if p.Kind == 1 && p.Depth > 0 && Supports(p, plain.Flipped(k, p.Depth-1), api.Digest{}, false) {
			t.Fatalf("%s: the proof for %x supports the absence of a key whose way leaves before", m.Name, k)
		}
	})
}

// Rule 6 of the document: the functions may be called concurrently.
func TestConcurrentCalls(t *testing.T) {
	h := plain.Hasher(256)
	m := plain.Large()[2]
	n := m.Tree(h)
	var wait sync.WaitGroup
	for range 8 {
		own := h.Fork()
		wait.Go(func() {
			for _, k := range m.Queries() {
				p := Prove(own, n, k)
				l, errno := Expand(own, p)
				if !plain.SameProof(p, describe(256, m, k)) || Check(p) != api.OK || errno != api.OK || !slices.Equal(l, expand(256, p)) || !Equal(p, Clone(p)) {
					t.Errorf("other results for %x", k)
				}
			}
		})
	}
	wait.Wait()
}

// The examples of the chapter, and the second and the third one of the document.
func TestExamples(t *testing.T) {
	h := plain.Hasher(256)
	for _, k := range plain.Keys() {
		if p := Prove(h, nil, k); p.Kind != api.Empty || p.Depth != 0 || len(p.Siblings) != 0 {
			t.Errorf("the proof for %x in the empty map: %x", k, p)
		}
		if p := Prove(h, plain.OfKeys("0", api.Key{}).Tree(h), k); p.Kind != api.Full || p.Depth != 0 || len(p.Siblings) != 0 {
			t.Errorf("the proof for %x in the map of one key: %x", k, p)
		}
	}
	two := plain.OfKeys("0, 255", api.Key{}, api.Key{255}).Tree(h)
	p := Prove(h, two, api.Key{128})
	if p.Kind != api.Full || p.Depth != 1 || p.Leaf.Key != (api.Key{255}) || len(p.Siblings) != 1 || p.Siblings[0] != node.Digest(h, two.Left()) {
		t.Errorf("the proof for the key 128: %x", p)
	}
	if !Supports(p, api.Key{128}, api.Digest{}, false) || Supports(p, api.Key{128}, p.Leaf.Value, true) {
		t.Error("the proof for the key 128 does not show that it is absent")
	}
}
