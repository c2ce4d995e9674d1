package node

import (
	"bytes"
	"crypto/sha256"
	"math/big"
	"math/rand"
	"strconv"
	"sync"
	"testing"

	"sparsetree/api"
	"sparsetree/digest"
)

// filled returns the 32 bytes that are all x.
func filled(x byte) [32]byte { return [32]byte(bytes.Repeat([]byte{x}, 32)) }

// counting returns the 32 bytes that count from first on.
func counting(first byte) [32]byte {
	var b [32]byte
	for i := range b {
		b[i] = first + byte(i)
	}
	return b
}

// keys are the least and the greatest key, mixed ones, and those with a single byte.
func keys() []api.Key {
	return []api.Key{{}, filled(255), filled(1), filled(2), filled(3), counting(1), counting(200), {128}, {64}, {255}, {31: 1}, {31: 255}}
}

// values are values without bytes, of each single byte, long ones, and such that look like preimages.
func values() [][]byte {
	l := [][]byte{nil, {}, []byte("abc")[:0], []byte("value"), make([]byte, 64), make([]byte, 65), make([]byte, 65535), bytes.Repeat([]byte{255}, 65535), make([]byte, 65536), bytes.Repeat([]byte{7}, 1<<20)}
	for x := range 256 {
		l = append(l, []byte{byte(x)})
	}
	a, b := counting(1), counting(100)
	for first := range byte(4) {
		l = append(l, joined(first, a[:], b[:]))
	}
	return l
}

// someBits are numbers of bits of hashers: the least, the greatest, and some in between.
func someBits() []int { return []int{0, 1, 2, 7, 8, 9, 12, 31, 32, 64, 100, 128, 254, 255, 256} }

// hasher returns a hasher for a number of bits, from 0 to 256.
func hasher(t *testing.T, bits int) *digest.Hasher {
	t.Helper()
	h, errno := digest.New(bits)
	if h == nil || errno != api.OK {
		t.Fatalf("New(%d) = %v, %v", bits, h, errno)
	}
	return h
}

// joined are bytes one after the other, independently of package preimage.
func joined(first byte, pieces ...[]byte) []byte {
	return append([]byte{first}, bytes.Join(pieces, nil)...)
}

// wantSum is the digest of bytes for a number of bits, from the standard library.
func wantSum(b []byte, bits int) api.Digest {
	sum := sha256.Sum256(b)
	x := new(big.Int).SetBytes(sum[:])
	x.Rsh(x, uint(256-bits))
	x.Lsh(x, uint(256-bits))
	var want api.Digest
	x.FillBytes(want[:])
	return want
}

// wantLeaf is the leaf of an entry as chapter 6 describes it.
func wantLeaf(e api.Entry, bits int) api.Leaf {
	return api.Leaf{Key: e.Key, Value: wantSum(joined(2, e.Value), bits)}
}

// plan tells how a subtree is made: not at all if it is nil, of an entry, or by Join of two plans.
type plan struct {
	entry       *api.Entry
	left, right *plan
}

// leaf is the plan of a leaf whose value has a single byte.
func leaf(first, value byte) *plan {
	return &plan{entry: &api.Entry{Key: api.Key{first}, Value: []byte{value}}}
}

// join is the plan of a Join.
func join(left, right *plan) *plan { return &plan{left: left, right: right} }

// make makes the subtree of a plan.
func (p *plan) make(h *digest.Hasher) *Node {
	switch {
	case p == nil:
		return nil
	case p.entry != nil:
		return NewLeaf(h, *p.entry)
	}
	return Join(h, p.left.make(h), p.right.make(h))
}

// moved is the plan of which all leaves were moved up to where P7.2 says that they are.
func (p *plan) moved() *plan {
	if p == nil || p.entry != nil {
		return p
	}
	left, right := p.left.moved(), p.right.moved()
	switch {
	case left == nil && (right == nil || right.entry != nil):
		return right
	case right == nil && left.entry != nil:
		return left
	}
	return join(left, right)
}

// kind is the kind of the subtree of a plan whose leaves were moved up.
func (p *plan) kind() int {
	switch {
	case p == nil:
		return api.Empty
	case p.entry != nil:
		return api.Full
	}
	return api.Inner
}

// entries are the entries of a plan from the left to the right.
func (p *plan) entries() []api.Entry {
	switch {
	case p == nil:
		return nil
	case p.entry != nil:
		return []api.Entry{*p.entry}
	}
	return append(p.left.entries(), p.right.entries()...)
}

// digest is the digest of the subtree of a plan whose leaves were moved up, as the chapter describes it.
func (p *plan) digest(bits int) api.Digest {
	switch {
	case p == nil:
		return wantSum([]byte{3}, bits)
	case p.entry != nil:
		l := wantLeaf(*p.entry, bits)
		return wantSum(joined(0, l.Key[:], l.Value[:]), bits)
	}
	left, right := p.left.digest(bits), p.right.digest(bits)
	return wantSum(joined(1, left[:], right[:]), bits)
}

// String tells where the leaves are.
func (p *plan) String() string {
	switch {
	case p == nil:
		return "-"
	case p.entry != nil:
		return strconv.Itoa(int(p.entry.Key[0]))
	}
	return "(" + p.left.String() + " " + p.right.String() + ")"
}

// comb is the plan of n leaves of which each one is beside all those before it.
func comb(n int) *plan {
	var p *plan
	for i := range n {
		p = join(leaf(byte(i), byte(i)), p)
	}
	return p
}

// whole is the plan of a tree with 2^levels leaves.
func whole(levels int, first byte) *plan {
	if levels == 0 {
		return leaf(first, 255-first)
	}
	return join(whole(levels-1, first), whole(levels-1, first+1<<(levels-1)))
}

// random is a plan of at most some levels, with many empty subtrees.
func random(r *rand.Rand, levels int) *plan {
	switch x := r.Intn(10); {
	case levels == 0 && x < 5 || x < 2:
		return nil
	case levels == 0 || x < 4:
		value := make([]byte, r.Intn(4))
		r.Read(value)
		e := api.Entry{Value: value}
		r.Read(e.Key[:])
		return &plan{entry: &e}
	}
	return join(random(r, levels-1), random(r, levels-1))
}

// pairs are the plans of each pair of an empty subtree, a leaf and an inner node, with some inner nodes that have an empty subtree.
func pairs() []*plan {
	parts := []*plan{nil, leaf(1, 7), leaf(2, 8), join(leaf(3, 9), leaf(4, 10))}
	parts = append(parts, join(nil, parts[3]), join(parts[3], nil), join(nil, join(parts[3], nil)))
	var l []*plan
	for _, left := range parts {
		for _, right := range parts {
			l = append(l, join(left, right))
		}
	}
	return l
}

// plans are plans of all kinds.
func plans() []*plan {
	two := join(leaf(1, 7), leaf(2, 8))
	l := []*plan{nil, leaf(0, 0), leaf(255, 255), two, comb(20), whole(5, 0)}
	for _, p := range pairs() {
		l = append(l, p, join(p, nil), join(nil, p), join(p, leaf(5, 5)), join(leaf(5, 5), p))
	}
	for _, k := range keys() {
		l = append(l, &plan{entry: &api.Entry{Key: k}}, join(&plan{entry: &api.Entry{Key: k, Value: k[:]}}, two))
	}
	r := rand.New(rand.NewSource(7))
	for range 100 {
		l = append(l, random(r, 7))
	}
	return l
}

// checkEntry checks what Entry and Leaf say of a subtree.
func checkEntry(t *testing.T, name string, n *Node, want api.Entry, wantLeaf api.Leaf) {
	t.Helper()
	if got := n.Entry(); got.Key != want.Key || !bytes.Equal(got.Value, want.Value) {
		t.Errorf("%s: Entry = %x, %.40x (%d bytes), want %x, %.40x (%d bytes)", name, got.Key, got.Value, len(got.Value), want.Key, want.Value, len(want.Value))
	}
	if got := n.Leaf(); got != wantLeaf {
		t.Errorf("%s: Leaf = %x, want %x", name, got, wantLeaf)
	}
}

// checkDigest checks the digest of a subtree, and that only the one of an empty subtree is computed, once.
func checkDigest(t *testing.T, name string, h *digest.Hasher, n *Node, want api.Digest) {
	t.Helper()
	before, wantCalls := h.Calls(), 0
	if n == nil {
		wantCalls = 1
	}
	if got := Digest(h, n); got != want {
		t.Errorf("%s: Digest with %d bits = %x, want %x", name, h.Bits(), got, want)
	}
	if got := h.Calls() - before; got != wantCalls {
		t.Errorf("%s: Digest computed %d digests, want %d", name, got, wantCalls)
	}
}

// checkNode checks all that can be called of a subtree and of its parts, for a plan whose leaves were moved up.
func checkNode(t *testing.T, h *digest.Hasher, n *Node, p *plan) {
	t.Helper()
	name, kind := p.String(), p.kind()
	if got := n.Kind(); got != kind || (n == nil) != (kind == api.Empty) {
		t.Fatalf("%s: Kind = %d, want %d (nil: %v)", name, got, kind, n == nil)
	}
	if got, want := n.Len(), len(p.entries()); got != want {
		t.Errorf("%s: Len = %d, want %d", name, got, want)
	}
	checkDigest(t, name, h, n, p.digest(h.Bits()))
	if kind == api.Full {
		checkEntry(t, name, n, *p.entry, wantLeaf(*p.entry, h.Bits()))
	} else {
		checkEntry(t, name, n, api.Entry{}, api.Leaf{})
	}
	if kind != api.Inner {
		if n.Left() != nil || n.Right() != nil {
			t.Errorf("%s: Left and Right = %v and %v", name, n.Left(), n.Right())
		}
		return
	}
	checkNode(t, h, n.Left(), p.left)
	checkNode(t, h, n.Right(), p.right)
}

// P7.1 to P7.4
func TestSubtreesOfPlans(t *testing.T) {
	for _, p := range plans() {
		h := hasher(t, 256)
		checkNode(t, h, p.make(h), p.moved())
	}
}

// P7.1 to P7.4: all that depends on digests, for hashers of some numbers of bits.
func TestSubtreesWithFewerBits(t *testing.T) {
	for _, bits := range someBits() {
		h := hasher(t, bits)
		for _, p := range pairs() {
			checkNode(t, h, p.make(h), p.moved())
		}
	}
}

// P7.4: for each number of bits, an empty subtree, a leaf and inner nodes.
func TestDigestForEachNumberOfBits(t *testing.T) {
	for bits := range 257 {
		h := hasher(t, bits)
		for _, p := range []*plan{nil, leaf(9, 9), join(leaf(1, 7), leaf(2, 8)), join(nil, join(leaf(1, 7), leaf(2, 8)))} {
			checkDigest(t, p.String(), h, p.make(h), p.moved().digest(bits))
		}
	}
}

// P7.4: with 0 bits, all digests are zero.
func TestDigestsOfNoBitsAreZero(t *testing.T) {
	h := hasher(t, 0)
	for _, p := range plans() {
		n := p.make(h)
		checkDigest(t, p.String(), h, n, api.Digest{})
		if got, want := n.Leaf(), (api.Leaf{Key: n.Entry().Key}); got != want {
			t.Errorf("%s: Leaf = %x, want %x", p, got, want)
		}
	}
}

// P7.1 and P7.3: each key with each value.
func TestLeavesOfKeysAndValues(t *testing.T) {
	none, all := hasher(t, 0), hasher(t, 256)
	for _, v := range values() {
		for _, k := range keys()[:3] {
			e, before := api.Entry{Key: k, Value: v}, bytes.Clone(v)
			name := strconv.Itoa(len(v)) + " bytes"
			n, l := NewLeaf(all, e), wantLeaf(e, 256)
			checkEntry(t, name, n, e, l)
			checkDigest(t, name, all, n, sha256.Sum256(joined(0, k[:], l.Value[:])))
			checkEntry(t, name, NewLeaf(none, e), e, api.Leaf{Key: k})
			if n.Kind() != api.Full || n.Len() != 1 || n.Left() != nil || n.Right() != nil {
				t.Errorf("%s: kind %d, length %d, subtrees %v and %v", name, n.Kind(), n.Len(), n.Left(), n.Right())
			}
			if !bytes.Equal(v, before) {
				t.Errorf("%s: the value was changed", name)
			}
		}
	}
}

// P7.1: keys of zeros only and of 255 only, and others.
func TestLeavesOfKeys(t *testing.T) {
	h := hasher(t, 256)
	for _, k := range keys() {
		for _, v := range [][]byte{nil, {}, {0}, {255}, []byte("value")} {
			e := api.Entry{Key: k, Value: v}
			checkNode(t, h, NewLeaf(h, e), &plan{entry: &e})
		}
	}
}

// P7.1: a leaf with a value without bytes is no empty subtree, and its digest is another one.
func TestLeafOfNoBytesIsALeaf(t *testing.T) {
	h := hasher(t, 256)
	for _, v := range [][]byte{nil, {}} {
		n := NewLeaf(h, api.Entry{Value: v})
		if n == nil || n.Kind() != api.Full || n.Len() != 1 || len(n.Entry().Value) != 0 {
			t.Fatalf("a leaf with the value %#v is %v", v, n)
		}
		if Digest(h, n) == Digest(h, nil) || n.Leaf().Value != sha256.Sum256([]byte{2}) {
			t.Errorf("a leaf with the value %#v has the digest %x and the leaf %x", v, Digest(h, n), n.Leaf())
		}
		if Join(h, n, nil) != n || Join(h, nil, n) != n || Join(h, n, n).Len() != 2 {
			t.Errorf("a leaf with the value %#v is taken as empty", v)
		}
	}
}

// P7.1: the value that was given may be changed afterwards, also behind the length of the slice.
func TestLeafCopiesTheValue(t *testing.T) {
	h, all := hasher(t, 256), []byte("0123456789")
	e := api.Entry{Key: counting(1), Value: all[2:5]}
	want := api.Entry{Key: counting(1), Value: []byte("234")}
	n := NewLeaf(h, e)
	if string(all) != "0123456789" {
		t.Errorf("NewLeaf changed its argument: %q", all)
	}
	for i := range all {
		all[i] = 'x'
	}
	e.Key[0] = 77
	checkNode(t, h, n, &plan{entry: &want})
	next := api.Entry{Key: e.Key, Value: []byte("xxx")}
	checkNode(t, h, NewLeaf(h, e), &plan{entry: &next})
	checkNode(t, h, n, &plan{entry: &want})
}

// P7.3: the value that Entry returned may be changed, with what is behind its length.
func TestEntryCopiesTheValue(t *testing.T) {
	h := hasher(t, 256)
	for _, v := range []string{"", "v", "value", string(make([]byte, 1000))} {
		want := api.Entry{Key: counting(1), Value: []byte(v)}
		n := NewLeaf(h, api.Entry{Key: counting(1), Value: []byte(v)})
		other := n.Entry()
		for range 3 {
			e := n.Entry()
			e.Key[0] = 77
			for i := range e.Value[:cap(e.Value)] {
				e.Value[:cap(e.Value)][i] ^= 255
			}
			_ = append(e.Value, 1, 2, 3)
			checkNode(t, h, n, &plan{entry: &want})
			if other.Key != want.Key || string(other.Value) != v {
				t.Errorf("the entry of a call before is %x, %x", other.Key, other.Value)
			}
		}
	}
}

// P7.3: Leaf returns a value of its own.
func TestLeafMayBeChanged(t *testing.T) {
	h, e := hasher(t, 256), api.Entry{Key: counting(1), Value: []byte("value")}
	n := NewLeaf(h, e)
	l := n.Leaf()
	l.Key[0], l.Value[31] = 77, ^l.Value[31]
	checkNode(t, h, n, &plan{entry: &e})
}

// P7.2: each pair of an empty subtree, a leaf and an inner node, in both orders.
func TestJoinOfPairs(t *testing.T) {
	h := hasher(t, 256)
	a, b := leaf(1, 7).make(h), leaf(2, 8).make(h)
	x, y := Join(h, a, b), Join(h, b, a)
	for _, c := range []struct {
		name        string
		left, right *Node
		want        *Node // nil for a new inner node
		kind        int
		leaves      int
	}{
		{"empty, empty", nil, nil, nil, api.Empty, 0},
		{"leaf, empty", a, nil, a, api.Full, 1},
		{"empty, leaf", nil, a, a, api.Full, 1},
		{"leaf, leaf", a, b, nil, api.Inner, 2},
		{"the other leaf, leaf", b, a, nil, api.Inner, 2},
		{"leaf, the same leaf", a, a, nil, api.Inner, 2},
		{"inner node, empty", x, nil, nil, api.Inner, 2},
		{"empty, inner node", nil, x, nil, api.Inner, 2},
		{"inner node, leaf", x, a, nil, api.Inner, 3},
		{"leaf, inner node", a, x, nil, api.Inner, 3},
		{"inner node, inner node", x, y, nil, api.Inner, 4},
		{"inner node, the same inner node", x, x, nil, api.Inner, 4},
	} {
		n := Join(h, c.left, c.right)
		if n.Kind() != c.kind || n.Len() != c.leaves {
			t.Errorf("%s: kind %d, length %d, want %d and %d", c.name, n.Kind(), n.Len(), c.kind, c.leaves)
		}
		if c.kind != api.Inner {
			if n != c.want {
				t.Errorf("%s: another subtree than what was given", c.name)
			}
			continue
		}
		if n == c.left || n == c.right || n.Left() != c.left || n.Right() != c.right {
			t.Errorf("%s: no inner node with both", c.name)
		}
		left, right := Digest(h, c.left), Digest(h, c.right)
		checkDigest(t, c.name, h, n, sha256.Sum256(joined(1, left[:], right[:])))
	}
}

// P7.2: an inner node with an empty subtree on either side stays one below further empty subtrees, at each level.
func TestJoinOfInnerNodesWithEmptySubtrees(t *testing.T) {
	h := hasher(t, 256)
	for sides := range 64 {
		p := join(leaf(1, 7), leaf(2, 8))
		n := p.make(h)
		for level := range 6 {
			below := n
			if sides>>level&1 == 0 {
				p, n = join(p, nil), Join(h, n, nil)
			} else {
				p, n = join(nil, p), Join(h, nil, n)
			}
			if n == below {
				t.Fatalf("%s: Join returned the inner node that it was given", p)
			}
			checkNode(t, h, n, p)
		}
	}
}

// P7.2: a leaf is moved up through any number of empty subtrees, on either side.
func TestJoinMovesALeafUp(t *testing.T) {
	for _, bits := range someBits() {
		h := hasher(t, bits)
		for sides := range 16 {
			a := leaf(1, 7).make(h)
			want, n := Digest(h, a), a
			for level := range 300 {
				if sides>>(level%4)&1 == 0 {
					n = Join(h, n, nil)
				} else {
					n = Join(h, nil, n)
				}
				if n != a {
					t.Fatalf("the leaf is another subtree after %d levels", level+1)
				}
			}
			checkDigest(t, "the leaf", h, n, want)
		}
	}
}

// P7.2: empty subtrees stay empty.
func TestJoinOfEmptySubtrees(t *testing.T) {
	h := hasher(t, 256)
	var n *Node
	for range 300 {
		n = Join(h, n, Join(h, nil, n))
		if n != nil {
			t.Fatal("a Join of empty subtrees is not empty")
		}
	}
}

// P7.3: every call on a nil *Node.
func TestNilNodeIsEmpty(t *testing.T) {
	var n *Node
	checkEntry(t, "nil", n, api.Entry{}, api.Leaf{})
	if n.Kind() != api.Empty || n.Left() != nil || n.Right() != nil || n.Len() != 0 {
		t.Errorf("nil: kind %d, subtrees %v and %v, length %d", n.Kind(), n.Left(), n.Right(), n.Len())
	}
	if got := n.Left().Right().Left().Kind(); got != api.Empty {
		t.Errorf("the subtrees of nil have the kind %d", got)
	}
	for _, bits := range someBits() {
		checkDigest(t, "nil", hasher(t, bits), n, wantSum([]byte{3}, bits))
	}
}

// P7.3: zero values of inner nodes, and no subtrees of leaves.
func TestWhatOtherKindsHaveIsZero(t *testing.T) {
	h := hasher(t, 256)
	a := NewLeaf(h, api.Entry{Key: filled(255), Value: []byte("value")})
	for _, n := range []*Node{Join(h, a, a), Join(h, nil, Join(h, a, a)), Join(h, Join(h, a, a), nil)} {
		checkEntry(t, "inner node", n, api.Entry{}, api.Leaf{})
		if got := n.Kind(); got != api.Inner {
			t.Errorf("an inner node has the kind %d", got)
		}
	}
	if a.Kind() != api.Full || a.Left() != nil || a.Right() != nil {
		t.Errorf("a leaf has the kind %d and the subtrees %v and %v", a.Kind(), a.Left(), a.Right())
	}
}

// P7.3: the subtrees of an inner node are those that it was made with, each time.
func TestLeftAndRightAreWhatWasJoined(t *testing.T) {
	h := hasher(t, 12)
	var l []*Node
	for _, p := range pairs() {
		l = append(l, p.make(h))
	}
	for _, left := range l {
		for _, right := range l {
			n := Join(h, left, right)
			if n.Kind() != api.Inner {
				continue
			}
			for range 2 {
				if n.Left() != left || n.Right() != right {
					t.Errorf("an inner node has other subtrees than those that it was made with")
				}
			}
		}
	}
}

// P7.3: leaves that were moved up count once, and empty subtrees not at all.
func TestLenOfLeavesThatWereMovedUp(t *testing.T) {
	h := hasher(t, 0)
	up := func(n *Node) *Node { return Join(h, nil, Join(h, Join(h, n, nil), nil)) }
	a, b, c := leaf(1, 7).make(h), leaf(2, 8).make(h), leaf(3, 9).make(h)
	for _, x := range []struct {
		n    *Node
		want int
	}{
		{up(nil), 0}, {up(a), 1}, {Join(h, up(a), b), 2}, {Join(h, a, up(b)), 2}, {Join(h, up(a), up(b)), 2},
		{up(Join(h, up(a), up(b))), 2}, {Join(h, up(c), up(Join(h, a, up(b)))), 3}, {Join(h, up(Join(h, a, b)), up(Join(h, b, c))), 4},
		{comb(100).make(h), 100}, {whole(7, 0).make(h), 128},
	} {
		if got := x.n.Len(); got != x.want {
			t.Errorf("Len = %d, want %d", got, x.want)
		}
	}
}

// P7.3: Len does not visit the leaves, of which there may be many, as a subtree may be a part of others several times.
func TestLenOfManyLeaves(t *testing.T) {
	h := hasher(t, 256)
	n := leaf(1, 7).make(h)
	for level := range 30 {
		n = Join(h, n, n)
		if got, want := n.Len(), 2<<level; got != want {
			t.Fatalf("Len = %d, want %d", got, want)
		}
	}
	for range 100000 {
		if n.Len() != 1<<30 {
			t.Fatalf("Len = %d", n.Len())
		}
	}
}

// P7.4: only the digest of an empty subtree is computed, with the hasher that is given and no other one.
func TestDigestCalls(t *testing.T) {
	for _, bits := range someBits() {
		h := hasher(t, bits)
		a, x := leaf(1, 7).make(h), join(leaf(1, 7), leaf(2, 8)).make(h)
		made, f := h.Calls(), h.Fork()
		above := join(join(leaf(1, 7), leaf(2, 8)), nil).make(h.Fork())
		for i := range 5 {
			Digest(f, a)
			Digest(f, x)
			Digest(f, above)
			if got := f.Calls(); got != i {
				t.Errorf("%d digests were computed before that of an empty subtree, want %d", got, i)
			}
			Digest(f, nil)
			if got := f.Calls(); got != i+1 {
				t.Errorf("%d digests of empty subtrees were computed, want %d", got, i+1)
			}
		}
		if got := h.Calls(); got != made {
			t.Errorf("the hasher of the subtrees computed %d digests afterwards", got-made)
		}
		if Digest(f, a) != Digest(h, a) || Digest(f, x) != Digest(h, x) || Digest(f, nil) != Digest(h, nil) {
			t.Errorf("with %d bits, two hashers have different digests", bits)
		}
	}
}

// P7.4: what can be called of a subtree computes nothing.
func TestReadingComputesNothing(t *testing.T) {
	h := hasher(t, 256)
	l := []*Node{leaf(1, 7).make(h), comb(5).make(h), join(nil, comb(3)).make(h)}
	before := h.Calls()
	for _, n := range l {
		n.Kind()
		n.Entry()
		n.Leaf()
		n.Left().Leaf()
		n.Right().Entry()
		n.Len()
		Digest(h, n)
	}
	if got := h.Calls() - before; got != 0 {
		t.Errorf("%d digests were computed", got)
	}
}

// P2 and P7.3: a subtree that became a part of further ones is as before.
func TestSubtreesAreNeverChanged(t *testing.T) {
	for _, bits := range []int{0, 12, 256} {
		h := hasher(t, bits)
		for _, p := range pairs() {
			want := p.moved()
			n := p.make(h)
			checkNode(t, h, n, want)
			above := n
			for i := range 5 {
				above = Join(h, above, n)
				above = Join(h, leaf(byte(i), 0).make(h), above)
				Join(h, nil, above)
				Join(h, n, nil)
				checkNode(t, h, n, want)
			}
			checkNode(t, h, n.Left(), want.side(true))
			checkNode(t, h, n.Right(), want.side(false))
		}
	}
}

// side is the plan of a subtree of an inner node, or of none.
func (p *plan) side(left bool) *plan {
	switch {
	case p.kind() != api.Inner:
		return nil
	case left:
		return p.left
	}
	return p.right
}

// P2: subtrees that were made separately, of the same or of different entries, are independent.
func TestSubtreesAreIndependent(t *testing.T) {
	h := hasher(t, 256)
	v := []byte("value")
	a, b := NewLeaf(h, api.Entry{Key: counting(1), Value: v}), NewLeaf(h, api.Entry{Key: counting(1), Value: v})
	e := a.Entry()
	e.Value[0] = 'x'
	want := &plan{entry: &api.Entry{Key: counting(1), Value: []byte("value")}}
	checkNode(t, h, a, want)
	checkNode(t, h, b, want)
	if a == b {
		t.Error("two leaves are one object")
	}
}

// P7.5: other leaves, or leaves elsewhere, have other digests (with 256 bits), and the same ones have the same digest.
func TestDigestTellsLeavesAndPlaces(t *testing.T) {
	h := hasher(t, 256)
	seen := map[api.Digest]string{}
	places := map[string]api.Digest{}
	for _, p := range plans() {
		name := p.moved().String()
		for _, e := range p.entries() {
			name += " " + string(e.Key[:]) + strconv.Quote(string(e.Value))
		}
		d := Digest(h, p.make(h))
		if other, ok := seen[d]; ok && other != name {
			t.Errorf("%q and %q have the digest %x", name, other, d)
		}
		if other, ok := places[name]; ok && other != d {
			t.Errorf("%q has the digests %x and %x", name, other, d)
		}
		seen[d], places[name] = name, d
	}
	if len(seen) < 100 {
		t.Errorf("only %d different subtrees", len(seen))
	}
}

// P7.5: subtrees with the same leaves, in other places.
func TestDigestDependsOnPlaces(t *testing.T) {
	h := hasher(t, 256)
	a, b, c := leaf(1, 7).make(h), leaf(2, 8).make(h), leaf(3, 9).make(h)
	l := []*Node{
		Join(h, a, b), Join(h, b, a), Join(h, nil, Join(h, a, b)), Join(h, Join(h, a, b), nil), Join(h, nil, Join(h, nil, Join(h, a, b))),
		Join(h, Join(h, a, b), c), Join(h, a, Join(h, b, c)), Join(h, Join(h, b, a), c), Join(h, c, Join(h, a, b)), a, b, c, nil,
	}
	for i, x := range l {
		for j, y := range l {
			if i != j && Digest(h, x) == Digest(h, y) {
				t.Errorf("the subtrees %d and %d have the same digest", i, j)
			}
		}
	}
	if Digest(h, Join(h, Join(h, nil, a), Join(h, b, nil))) != Digest(h, l[0]) {
		t.Error("two leaves that were moved up have another digest")
	}
}

// P7.5: keys and values both count.
func TestDigestDependsOnKeyAndValue(t *testing.T) {
	h := hasher(t, 256)
	seen := map[api.Digest]bool{}
	count := 0
	for _, k := range keys() {
		for _, v := range []string{"", "\x00", "\x00\x00", "\x02", "\x03", "value"} {
			seen[Digest(h, NewLeaf(h, api.Entry{Key: k, Value: []byte(v)}))] = true
			count++
		}
	}
	if len(seen) != count {
		t.Errorf("%d digests of %d different leaves", len(seen), count)
	}
}

// P1: 2^16 levels of inner nodes, of which each has one leaf, or an empty subtree.
func TestManyLevels(t *testing.T) {
	const levels = 1 << 16
	h := hasher(t, 256)
	a := leaf(1, 7).make(h)
	x, y := Join(h, a, a), Join(h, a, a)
	wantX, wantY, nothing, one := Digest(h, x), Digest(h, y), Digest(h, nil), Digest(h, a)
	for range levels {
		x, y = Join(h, a, x), Join(h, y, nil)
		wantX, wantY = sha256.Sum256(joined(1, one[:], wantX[:])), sha256.Sum256(joined(1, wantY[:], nothing[:]))
	}
	checkDigest(t, "with leaves", h, x, wantX)
	checkDigest(t, "with empty subtrees", h, y, wantY)
	if x.Len() != levels+2 || y.Len() != 2 {
		t.Errorf("Len = %d and %d", x.Len(), y.Len())
	}
	for range levels {
		x, y = x.Right(), y.Left()
	}
	if x.Left() != a || x.Right() != a || y.Left() != a || y.Right() != a {
		t.Error("other leaves at the end")
	}
}

// Rule 6 of the document: the functions may be called concurrently, on subtrees that are shared, with hashers of their own.
func TestConcurrentCalls(t *testing.T) {
	h := hasher(t, 256)
	p := join(comb(5), whole(3, 100))
	n, want := p.make(h), p.moved()
	var wait sync.WaitGroup
	for i := range 8 {
		wait.Go(func() {
			f := h.Fork()
			for range 20 {
				if Digest(f, n) != want.digest(256) || n.Len() != 13 || n.Left().Left().Entry().Key != (api.Key{4}) {
					t.Error("other results of concurrent calls")
				}
				if x := Join(f, n, leaf(byte(i), 0).make(f)); x.Left() != n || x.Len() != 14 {
					t.Error("another Join of concurrent calls")
				}
			}
		})
	}
	wait.Wait()
}

// The examples of chapter 7, and the first one of the document.
func TestExamples(t *testing.T) {
	h := hasher(t, 256)
	a, b := leaf(1, 7).make(h), leaf(2, 8).make(h)
	if n := Join(h, a, nil); n != a || Digest(h, n) != Digest(h, a) {
		t.Error("a Join of a leaf and an empty subtree is not the leaf")
	}
	n := Join(h, nil, Join(h, a, b))
	if n.Kind() != api.Inner || n.Left() != nil || n.Right().Kind() != api.Inner {
		t.Error("a Join of an empty subtree and an inner node is no inner node with both")
	}
	if got := Digest(h, nil); got != sha256.Sum256([]byte{3}) {
		t.Errorf("the digest of an empty subtree is %x", got)
	}
}
