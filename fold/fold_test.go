package fold

import (
	"bytes"
	"crypto/sha256"
	"slices"
	"sync"
	"testing"

	"sparsetree/api"
	"sparsetree/digest"
	"sparsetree/find"
	"sparsetree/internal/plain"
	"sparsetree/node"
	"sparsetree/proof"
	"sparsetree/tree"
)

// sum returns the digest of a byte and the parts behind it, for a number of bits.
func sum(bits int, first byte, parts ...[]byte) api.Digest {
	return sumOf(bits, bytesOf(first, parts...))
}

// sumOf returns the digest of bytes for a number of bits, without a hasher.
func sumOf(bits int, b []byte) api.Digest { return digest.Cut(sha256.Sum256(b), bits) }

// bytesOf returns a byte and the parts behind it.
func bytesOf(first byte, parts ...[]byte) []byte {
	return append([]byte{first}, slices.Concat(parts...)...)
}

// images returns the preimages of a well-formed proof for a key, from the root to the end.
func images(bits int, p api.Proof, k api.Key) [][]byte {
	return plain.Images(func(b []byte) api.Digest { return sumOf(bits, b) }, p, k)
}

// upwards returns the digests of preimages, of the last one first.
func upwards(bits int, l [][]byte) []api.Digest {
	var digests []api.Digest
	for i := len(l) - 1; i >= 0; i-- {
		digests = append(digests, sumOf(bits, l[i]))
	}
	return digests
}

// same reports whether two lists have the same preimages.
func same(a, b [][]byte) bool { return slices.EqualFunc(a, b, bytes.Equal) }

// checkFold checks Steps, Root and Preimages of a well-formed proof for a key, and how many digests they compute.
func checkFold(t *testing.T, h *digest.Hasher, p api.Proof, k api.Key) {
	t.Helper()
	want := images(h.Bits(), p, k)
	digests := upwards(h.Bits(), want)
	before := h.Calls()
	steps, errno := Steps(h, p, k)
	middle := h.Calls()
	root, second := Root(h, p, k)
	after := h.Calls()
	l, third := Preimages(h, p, k)
	if errno != api.OK || !slices.Equal(steps, digests) {
		t.Fatalf("%d bits, %x: Steps for %x = %x, %v, want %x", h.Bits(), p, k, steps, errno, digests)
	}
	if second != api.OK || root != digests[p.Depth] {
		t.Fatalf("%d bits, %x: Root for %x = %x, %v, want %x", h.Bits(), p, k, root, second, digests[p.Depth])
	}
	if third != api.OK || !same(l, want) {
		t.Fatalf("%d bits, %x: Preimages for %x = %x, %v, want %x", h.Bits(), p, k, l, third, want)
	}
	if middle-before > p.Depth+2 || after-middle > p.Depth+2 {
		t.Fatalf("%d bits, depth %d: Steps computes %d digests, and Root %d", h.Bits(), p.Depth, middle-before, after-middle)
	}
}

// checkError checks Steps, Root and Preimages of a proof that is not well-formed.
func checkError(t *testing.T, name string, h *digest.Hasher, p api.Proof, want api.Errno) {
	t.Helper()
	if errno := proof.Check(p); errno != want {
		t.Fatalf("%s: Check of %x = %v, want %v", name, p, errno, want)
	}
	for _, k := range []api.Key{{}, plain.Filled(255), p.Leaf.Key} {
		before := h.Calls()
		if l, errno := Steps(h, p, k); len(l) != 0 || errno != want {
			t.Fatalf("%s: %x: Steps for %x = %x, %v, want %v", name, p, k, l, errno, want)
		}
		middle := h.Calls()
		if d, errno := Root(h, p, k); d != (api.Digest{}) || errno != want {
			t.Fatalf("%s: %x: Root for %x = %x, %v, want %v", name, p, k, d, errno, want)
		}
		after := h.Calls()
		if l, errno := Preimages(h, p, k); len(l) != 0 || errno != want {
			t.Fatalf("%s: %x: Preimages for %x = %x, %v, want %v", name, p, k, l, errno, want)
		}
		if most := max(0, min(p.Depth, 256)+2); middle-before > most || after-middle > most {
			t.Fatalf("%s: depth %d: Steps computes %d digests, and Root %d", name, p.Depth, middle-before, after-middle)
		}
	}
}

// P16.1: both kinds of ends, for each number of bits.
func TestEndOfBothKinds(t *testing.T) {
	leaves := append(plain.SomeLeaves(), plain.Formed(1).Leaf, api.Leaf{Key: plain.Filled(255), Value: api.Digest(plain.Filled(255))})
	for bits := range 257 {
		h := plain.Hasher(bits)
		if d := End(h, api.Proof{}); d != sum(bits, 3) {
			t.Errorf("%d bits: End at the empty subtree = %x", bits, d)
		}
		for _, l := range leaves {
			if d := End(h, api.Proof{Kind: 1, Leaf: l}); d != sum(bits, 0, l.Key[:], l.Value[:]) {
				t.Errorf("%d bits: End at the leaf %x = %x", bits, l, d)
			}
		}
	}
}

// P16.1: neither the key nor the digest of a leaf has a bit that does not matter.
func TestEndOfEachLeaf(t *testing.T) {
	h := plain.Hasher(256)
	for _, a := range plain.Neighbours(plain.Filled(0x5a)) {
		for _, l := range []api.Leaf{{Key: a, Value: api.Digest{9}}, {Key: api.Key{9}, Value: api.Digest(a)}} {
			if d := End(h, api.Proof{Kind: 1, Leaf: l}); d != sum(256, 0, l.Key[:], l.Value[:]) {
				t.Errorf("End at the leaf %x = %x", l, d)
			}
		}
	}
}

// P16.1: End asks for the kind only, and not for a form.
func TestEndOfMalformedProofs(t *testing.T) {
	for _, bits := range plain.Bits() {
		h := plain.Hasher(bits)
		for _, p := range plain.GoodProofs() {
			for _, b := range plain.Breaks(p) {
				want := sum(bits, 3)
				if p.Kind == 1 {
					want = sum(bits, 0, p.Leaf.Key[:], p.Leaf.Value[:])
				}
				if d := End(h, b.Proof); b.Errno == api.ErrForm && d != want {
					t.Fatalf("%s: %d bits: End of %x = %x, want %x", b.Name, bits, b.Proof, d, want)
				}
			}
		}
	}
}

// P16.2 and P16.3: siblings at no depth, at all, at the last one only, and at some, and keys with each bit.
func TestFoldOfWellFormedProofs(t *testing.T) {
	for _, bits := range plain.Bits() {
		h := plain.Hasher(bits)
		for _, p := range plain.GoodProofs() {
			for _, k := range append(plain.Keys(), p.Leaf.Key) {
				checkFold(t, h, p, k)
			}
		}
	}
}

// P16.2 and P16.3: each depth, and at each one a key with the bit 0 and one with the bit 1.
func TestFoldOfEachDepth(t *testing.T) {
	h := plain.Hasher(256)
	for _, p := range plain.OfEachDepth() {
		for _, k := range []api.Key{plain.Filled(0xaa), plain.Filled(0x55)} {
			checkFold(t, h, p, k)
		}
	}
}

// P16.2 and P16.3: the digest from below is on the left side for the bit 0, and on the right side for the bit 1.
func TestFoldOfFewDepths(t *testing.T) {
	h := plain.Hasher(256)
	leaf := api.Leaf{Key: api.Key{7}, Value: api.Digest{8}}
	a, b := api.Digest{1}, api.Digest{2}
	p := api.Proof{Kind: 1, Depth: 2, Leaf: leaf, Bitmap: [32]byte{192}, Siblings: []api.Digest{a, b}}
	end := sum(256, 0, leaf.Key[:], leaf.Value[:])
	for _, c := range []struct {
		first byte
		lower [][]byte // the sides at depth 1
		left  bool     // whether they are on the left side at depth 0
	}{
		{0, [][]byte{end[:], b[:]}, true}, {63, [][]byte{end[:], b[:]}, true}, {64, [][]byte{b[:], end[:]}, true}, {127, [][]byte{b[:], end[:]}, true},
		{128, [][]byte{end[:], b[:]}, false}, {191, [][]byte{end[:], b[:]}, false}, {192, [][]byte{b[:], end[:]}, false}, {255, [][]byte{b[:], end[:]}, false},
	} {
		lower := sum(256, 1, c.lower...)
		upper := [][]byte{lower[:], a[:]}
		if !c.left {
			slices.Reverse(upper)
		}
		root := sum(256, 1, upper...)
		k := api.Key{c.first}
		if l, errno := Steps(h, p, k); errno != api.OK || !slices.Equal(l, []api.Digest{end, lower, root}) {
			t.Errorf("%d: Steps = %x, %v", c.first, l, errno)
		}
		if d, errno := Root(h, p, k); errno != api.OK || d != root {
			t.Errorf("%d: Root = %x, %v", c.first, d, errno)
		}
		if l, errno := Preimages(h, p, k); errno != api.OK || !same(l, [][]byte{bytesOf(1, upper...), bytesOf(1, c.lower...), bytesOf(0, leaf.Key[:], leaf.Value[:])}) {
			t.Errorf("%d: Preimages = %x, %v", c.first, l, errno)
		}
	}
}

// P16.2 and P16.3: at depth 0, the end is the root, for every key.
func TestFoldOfDepthZero(t *testing.T) {
	for _, bits := range plain.Bits() {
		h := plain.Hasher(bits)
		for _, leaf := range plain.SomeLeaves() {
			for _, k := range plain.Keys() {
				p := api.Proof{Kind: 1, Leaf: leaf}
				checkFold(t, h, p, k)
				if d, errno := Root(h, p, k); errno != api.OK || d != End(h, p) {
					t.Fatalf("%d bits, leaf %x: Root for %x = %x, %v", bits, leaf, k, d, errno)
				}
			}
		}
	}
}

// P16.2 to P16.4: a bit behind the depth changes nothing, and one before it changes what is at its depth and above.
func TestFoldOfKeysThatDifferInOneBit(t *testing.T) {
	h := plain.Hasher(256)
	for _, depths := range [][]int{nil, {0}, {1}, {0, 1}, {3, 100}, plain.From(0, 99), {254}, plain.From(0, 254), {255}, plain.From(0, 255)} {
		for kind := range 2 {
			p := plain.Formed(kind, depths...)
			k := plain.Scattered(4, 1)[0]
			steps, _ := Steps(h, p, k)
			l, _ := Preimages(h, p, k)
			for i := range 256 {
				other := plain.Flipped(k, i)
				otherSteps, _ := Steps(h, p, other)
				others, _ := Preimages(h, p, other)
				for d := range p.Depth + 1 {
					want := d > i || i >= p.Depth
					if (steps[p.Depth-d] == otherSteps[p.Depth-d]) != want || bytes.Equal(l[d], others[d]) != want {
						t.Fatalf("depths %v: bit %d differs: at depth %d, want the same %v", depths, i, d, want)
					}
				}
			}
		}
	}
}

// P16.2 and P16.4: keys that differ behind the depth only, in the bit just behind it, in the last ones, and in all.
func TestRootOfKeysWithTheSameBits(t *testing.T) {
	for _, bits := range plain.Bits() {
		h := plain.Hasher(bits)
		for _, p := range plain.GoodProofs() {
			for _, k := range plain.Keys()[:4] {
				want, _ := Root(h, p, k)
				for _, other := range behind(k, p.Depth) {
					if d, errno := Root(h, p, other); errno != api.OK || d != want {
						t.Fatalf("%d bits, %x: Root for %x = %x, %v, and for %x = %x", bits, p, other, d, errno, k, want)
					}
				}
			}
		}
	}
}

// behind returns keys that have the same first bits as a key, as many as depth, and differ from it behind them.
func behind(k api.Key, depth int) []api.Key {
	l := []api.Key{plain.Flipped(k, plain.From(depth, 255)...)}
	for _, i := range []int{depth, depth + 1, (depth + 256) / 2, 254, 255} {
		if i >= depth && i < 256 {
			l = append(l, plain.Flipped(k, i))
		}
	}
	return l
}

// P16.2 and P16.3: each kind and each form that is wrong.
func TestFoldOfMalformedProofs(t *testing.T) {
	for _, bits := range []int{0, 12, 256} {
		h := plain.Hasher(bits)
		for _, p := range plain.GoodProofs() {
			for _, b := range plain.Breaks(p) {
				checkError(t, b.Name, h, b.Proof, b.Errno)
				b.Proof.Kind = api.Inner
				checkError(t, "kind and "+b.Name, h, b.Proof, api.ErrKind)
			}
		}
	}
}

// P1 of the document: End returns for each kind, though the chapter says of two of them only what it returns.
func TestEndOfEachKind(t *testing.T) {
	for _, kind := range plain.BadKinds() {
		for _, p := range plain.GoodProofs() {
			p.Kind = kind
			End(plain.Hasher(256), p)
		}
	}
}

// P16.2 to P16.4: the steps and preimages of a map are those of the subtrees on the way of the key.
func TestFoldOfMaps(t *testing.T) {
	ends := map[string]int{}
	plain.EachQuery([]int{0, 12, 256}, func(h *digest.Hasher, m plain.Map, n *node.Node, k api.Key) {
		p := proof.Prove(h, n, k)
		checkFold(t, h, p, k)
		way := find.Way(n, k)
		steps, _ := Steps(h, p, k)
		for d, x := range way {
			if steps[len(way)-1-d] != node.Digest(h, x) {
				t.Fatalf("%d bits, %s: the step at depth %d for %x is %x", h.Bits(), m.Name, d, k, steps[len(way)-1-d])
			}
		}
		ends[plain.EndOf(p, k)]++
	})
	if len(ends) != 3 {
		t.Errorf("ends: %v", ends)
	}
}

// P16.4
func TestRootOfMaps(t *testing.T) {
	plain.EachQuery(plain.Bits(), func(h *digest.Hasher, m plain.Map, n *node.Node, k api.Key) {
		p, want := proof.Prove(h, n, k), node.Digest(h, n)
		if d, errno := Root(h, p, k); errno != api.OK || d != want {
			t.Fatalf("%d bits, %s: Root for %x = %x, %v, want %x", h.Bits(), m.Name, k, d, errno, want)
		}
		for _, other := range behind(k, p.Depth) {
			if d, errno := Root(h, p, other); errno != api.OK || d != want {
				t.Fatalf("%d bits, %s: Root of the proof for %x, for %x = %x, %v, want %x", h.Bits(), m.Name, k, other, d, errno, want)
			}
		}
		for i := 0; i < p.Depth && h.Bits() == 256; i += 1 + p.Depth/4 {
			if d, errno := Root(h, p, plain.Flipped(k, i)); errno != api.OK || d == want {
				t.Fatalf("%s: Root of the proof for %x, with bit %d inverted = %x, %v", m.Name, k, i, d, errno)
			}
		}
	})
}

// P16.4: two keys that differ in one bit, from the first to the last one.
func TestRootOfTwoKeys(t *testing.T) {
	for _, bits := range []int{12, 256} {
		h := plain.Hasher(bits)
		a := plain.Filled(0x96)
		for i := range 256 {
			n := plain.OfKeys("two", a, plain.Flipped(a, i)).Tree(h)
			for _, k := range []api.Key{a, plain.Flipped(a, i), plain.Flipped(a, i/2), plain.Flipped(a, 255), plain.Flipped(a, min(255, i+1))} {
				p := proof.Prove(h, n, k)
				checkFold(t, h, p, k)
				if d, errno := Root(h, p, k); errno != api.OK || d != node.Digest(h, n) {
					t.Fatalf("%d bits, keys that differ in bit %d: Root for %x = %x, %v", bits, i, k, d, errno)
				}
			}
		}
	}
}

// P16.4: the roots of the maps of a layer below.
func TestRootOfATree(t *testing.T) {
	for _, bits := range plain.Bits() {
		for _, m := range plain.Fives() {
			x, _ := tree.New(bits)
			for _, e := range m.Mixed() {
				if err := x.Put(e.Key[:], e.Value); err != nil {
					t.Fatal(err)
				}
				for _, k := range m.Queries() {
					if d, errno := Root(x.Hasher(), proof.Prove(x.Hasher(), x.Node(), k), k); errno != api.OK || d != x.Root() {
						t.Fatalf("%d bits, %s: Root for %x = %x, %v, want %x", bits, m.Name, k, d, errno, x.Root())
					}
				}
			}
		}
	}
}

// P16.4: another value, another key or another map lead to another root, with digests of 256 bits.
func TestRootOfOtherProofs(t *testing.T) {
	h := plain.Hasher(256)
	for _, m := range plain.Fives() {
		n := m.Tree(h)
		for _, k := range m.Queries() {
			p := proof.Prove(h, n, k)
			for i := range p.Siblings {
				q := plain.CopyOf(p)
				q.Siblings[i][31] ^= 1
				if d, errno := Root(h, q, k); errno != api.OK || d == node.Digest(h, n) {
					t.Errorf("%s: another Sibling %d leads to the root", m.Name, i)
				}
			}
			p.Leaf.Value[0] ^= 128
			if d, _ := Root(h, p, k); p.Kind == 1 && d == node.Digest(h, n) {
				t.Errorf("%s: another value leads to the root", m.Name)
			}
		}
	}
}

// Rule 4 of the document: no function changes a proof, what is behind its Siblings, or a key.
func TestProofsAreNotChanged(t *testing.T) {
	h := plain.Hasher(256)
	for _, p := range plain.Changed(func(p api.Proof) {
		End(h, p)
		Steps(h, p, api.Key{0x3c})
		Root(h, p, api.Key{0x3c})
		Preimages(h, p, api.Key{0x3c})
	}) {
		t.Errorf("%x is changed", p)
	}
}

// Rule 4 of the document: results may be changed, with what is behind them, and so may the proof; no other result changes.
func TestResultsShareNoMemory(t *testing.T) {
	h := plain.Hasher(256)
	for _, p := range plain.GoodProofs() {
		k, before := plain.Filled(0xa5), plain.CopyOf(p)
		want := images(256, p, k)
		steps, _ := Steps(h, p, k)
		keptSteps, _ := Steps(h, p, k)
		l, _ := Preimages(h, p, k)
		kept, _ := Preimages(h, p, k)
		clear(steps[:cap(steps)])
		for i, b := range l {
			clear(b[:cap(b)])
			if !same(l[i+1:], want[i+1:]) {
				t.Fatalf("%x: the preimages share memory with that at depth %d", before, i)
			}
		}
		clear(l[:cap(l)])
		if !plain.SameProof(p, before) {
			t.Fatalf("after the results were changed: the proof %x, want %x", p, before)
		}
		clear(p.Siblings)
		if !slices.Equal(keptSteps, upwards(256, want)) || !same(kept, want) {
			t.Fatalf("%x: after the proof was changed: the results %x, %x", before, keptSteps, kept)
		}
	}
}

// Rule 6 of the document: the functions may be called concurrently.
func TestConcurrentCalls(t *testing.T) {
	h := plain.Hasher(256)
	m := plain.Large()[2]
	n := m.Tree(h)
	proofs := map[api.Key]api.Proof{}
	for _, k := range m.Queries() {
		proofs[k] = proof.Prove(h, n, k)
	}
	var wait sync.WaitGroup
	for range 8 {
		own := h.Fork()
		wait.Go(func() {
			for k, p := range proofs {
				want := images(256, p, k)
				steps, _ := Steps(own, p, k)
				root, _ := Root(own, p, k)
				l, _ := Preimages(own, p, k)
				if !slices.Equal(steps, upwards(256, want)) || !same(l, want) || root != sumOf(256, want[0]) || End(own, p) != steps[0] {
					t.Errorf("other results for %x", k)
				}
			}
		})
	}
	wait.Wait()
}

// The example of the chapter, and the fifth one of the document.
func TestExamples(t *testing.T) {
	for _, bits := range plain.Bits() {
		h := plain.Hasher(bits)
		for _, k := range plain.Keys() {
			p := proof.Prove(h, nil, k)
			if d, errno := Root(h, p, k); errno != api.OK || d != h.Sum([]byte{3}) {
				t.Errorf("%d bits: the proof for %x in the empty map leads to %x, %v", bits, k, d, errno)
			}
			if l, errno := Steps(h, p, k); errno != api.OK || !slices.Equal(l, []api.Digest{h.Sum([]byte{3})}) {
				t.Errorf("%d bits: the steps for %x in the empty map: %x, %v", bits, k, l, errno)
			}
			if l, errno := Preimages(h, p, k); errno != api.OK || !same(l, [][]byte{{3}}) {
				t.Errorf("%d bits: the preimages for %x in the empty map: %x, %v", bits, k, l, errno)
			}
		}
	}
	h := plain.Hasher(0)
	for _, p := range plain.GoodProofs() {
		if d, errno := Root(h, p, api.Key{9}); errno != api.OK || d != (api.Digest{}) {
			t.Errorf("with 0 bits, %x leads to %x, %v", p, d, errno)
		}
	}
}
