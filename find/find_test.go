package find

import (
	"bytes"
	"fmt"
	"math"
	"math/rand"
	"slices"
	"strings"
	"sync"
	"testing"

	"sparsetree/api"
	"sparsetree/digest"
	"sparsetree/node"
)

// text is a key as its 256 bits, each one written as a digit.
func text(k api.Key) string {
	var b strings.Builder
	for _, x := range k {
		fmt.Fprintf(&b, "%08b", x)
	}
	return b.String()
}

// flipped is a key with some bits inverted.
func flipped(k api.Key, numbers ...int) api.Key {
	for _, i := range numbers {
		k[i/8] ^= 128 >> (i % 8)
	}
	return k
}

// filled is the key whose bytes are all x.
func filled(x byte) api.Key { return api.Key(bytes.Repeat([]byte{x}, 32)) }

// random is a key of random bytes.
func random(r *rand.Rand) api.Key {
	var k api.Key
	r.Read(k[:])
	return k
}

// someKeys are the least and the greatest key, and mixed ones.
func someKeys() []api.Key {
	r := rand.New(rand.NewSource(8))
	return []api.Key{{}, filled(255), filled(0xaa), filled(0x55), {128}, {31: 1}, random(r), random(r)}
}

// someInts are numbers of bits: all that a key may have, and others around and far from them.
func someInts() []int {
	l := []int{math.MinInt, math.MinInt + 1, math.MinInt32, -257, -256, -255, -128, -2, -1,
		257, 258, 264, 512, 513, math.MaxInt32, 1 << 32, 1<<32 + 1, math.MaxInt - 1, math.MaxInt}
	for i := range 257 {
		l = append(l, i)
	}
	return l
}

// limited is a number of bits, limited to the range from 0 to 256.
func limited(n int) int {
	switch {
	case n < 0:
		return 0
	case n > 256:
		return 256
	}
	return n
}

// hasher returns a hasher for a number of bits, from 0 to 256.
func hasher(t *testing.T, bits int) *digest.Hasher {
	t.Helper()
	h, errno := digest.New(bits)
	if h == nil || errno != api.OK {
		t.Fatalf("New(%d) = %v, %v", bits, h, errno)
	}
	return h
}

// value is a value that tells keys apart; some values have no bytes.
func value(i int) []byte {
	if i%3 == 2 {
		return nil
	}
	return []byte(fmt.Sprint("value ", i))
}

// member is a key of a map as its bits, with its value.
type member struct {
	text  string
	entry api.Entry
}

// plain is a map that is kept as the list of its keys, whose ways are told from the bits of the keys alone.
type plain struct {
	name    string
	members []member
}

// ofKeys is the map of different keys.
func ofKeys(name string, keys ...api.Key) plain {
	p := plain{name: name}
	for i, k := range keys {
		p.members = append(p.members, member{text(k), api.Entry{Key: k, Value: value(i)}})
	}
	slices.SortFunc(p.members, func(a, b member) int { return strings.Compare(a.text, b.text) })
	return p
}

// with are the members whose keys begin with some digits.
func (p plain) with(digits string) []member { return begin(p.members, digits) }

// begin are the members of a sorted list whose keys begin with some digits: they follow one another.
func begin(l []member, digits string) []member {
	for len(l) > 0 && !strings.HasPrefix(l[0].text, digits) {
		l = l[1:]
	}
	for len(l) > 0 && !strings.HasPrefix(l[len(l)-1].text, digits) {
		l = l[:len(l)-1]
	}
	return l
}

// prefixes are the members with the first bits of a key, for each number of bits from 0 to 256.
func (p plain) prefixes(k api.Key) [257][]member {
	digits, l := text(k), [257][]member{p.members}
	for d := 1; d < len(l); d++ {
		l[d] = begin(l[d-1], digits[:d])
	}
	return l
}

// depth is the depth at which the way of a key ends: the first one at which there are no two keys with its first bits.
func (p plain) depth(k api.Key) int {
	l := p.prefixes(k)
	return slices.IndexFunc(l[:], func(x []member) bool { return len(x) < 2 })
}

// tree makes the tree as the chapter describes it.
func (p plain) tree(h *digest.Hasher) *node.Node { return treeOf(h, p.members, 0) }

// treeOf makes the subtree of members at a depth.
func treeOf(h *digest.Hasher, l []member, depth int) *node.Node {
	switch len(l) {
	case 0:
		return nil
	case 1:
		return node.NewLeaf(h, l[0].entry)
	}
	zeros := 0
	for zeros < len(l) && l[zeros].text[depth] == '0' {
		zeros++
	}
	return node.Join(h, treeOf(h, l[:zeros], depth+1), treeOf(h, l[zeros:], depth+1))
}

// queries are keys to look for: some that are in the map, such that differ from them in few bits, and others.
func (p plain) queries() []api.Key {
	l := someKeys()
	step := max(1, len(p.members)/6)
	for i := 0; i < len(p.members); i += step {
		k := p.members[i].entry.Key
		end := p.depth(k)
		l = append(l, k, flipped(k, 0), flipped(k, 255), flipped(k, 100), flipped(k, 0, 255))
		for d := max(0, end-2); d < min(256, end+2); d++ {
			l = append(l, flipped(k, d))
		}
	}
	return l
}

// plains are maps of no key, of one key, of two that differ in one bit, and of many.
func plains() []plain {
	l := []plain{ofKeys("no keys")}
	for _, k := range someKeys() {
		l = append(l, ofKeys(fmt.Sprintf("%x", k), k),
			ofKeys(fmt.Sprintf("%x, first bit", k), k, flipped(k, 0)),
			ofKeys(fmt.Sprintf("%x, last bit", k), k, flipped(k, 255)),
			ofKeys(fmt.Sprintf("%x, first and last bit", k), k, flipped(k, 0), flipped(k, 255), flipped(k, 0, 255)),
			ofKeys(fmt.Sprintf("%x, 16", k), k, api.Key{16}))
	}
	for i := 0; i < 256; i += 5 {
		l = append(l, ofKeys(fmt.Sprint("bit ", i), filled(0x33), flipped(filled(0x33), i)))
	}
	l = append(l, ofKeys("0, 128", api.Key{}, api.Key{128}), ofKeys("0, 255", api.Key{}, api.Key{255}),
		ofKeys("0, 64, 255", api.Key{}, api.Key{64}, api.Key{255}), ofKeys("three at the end", api.Key{}, api.Key{31: 1}, api.Key{31: 2}))
	return append(l, largePlains()...)
}

// largePlains are maps of more keys: at random, with each first and each last byte, and with a leaf beside each depth of a way.
func largePlains() []plain {
	var l []plain
	for _, n := range []int{3, 5, 17, 100, 1000} {
		r, keys := rand.New(rand.NewSource(int64(n))), make([]api.Key, n)
		for i := range keys {
			keys[i] = random(r)
		}
		l = append(l, ofKeys(fmt.Sprint(n, " at random"), keys...))
	}
	first, last := make([]api.Key, 256), make([]api.Key, 256)
	for i := range 256 {
		first[i], last[i] = api.Key{byte(i)}, api.Key{31: byte(i)}
	}
	l = append(l, ofKeys("each first byte", first...), ofKeys("each last byte", last...))
	for _, k := range []api.Key{{}, filled(255), filled(0x5a)} {
		l = append(l, ofKeys(fmt.Sprintf("beside %x", k[:2]), neighbours(k)...))
	}
	return l
}

// neighbours are a key and all that differ from it in one bit.
func neighbours(k api.Key) []api.Key {
	l := []api.Key{k}
	for i := range 256 {
		l = append(l, flipped(k, i))
	}
	return l
}

// descend follows digits from a subtree on, independently of Child.
func descend(n *node.Node, digits string) *node.Node {
	for _, x := range digits {
		if x == '0' {
			n = n.Left()
		} else {
			n = n.Right()
		}
	}
	return n
}

// other is the digit that is not d.
func other(d byte) string { return string(d ^ 1) }

// leaves are the entries of a subtree from the left to the right.
func leaves(n *node.Node) []api.Entry {
	switch n.Kind() {
	case api.Empty:
		return nil
	case api.Full:
		return []api.Entry{n.Entry()}
	}
	return append(leaves(n.Left()), leaves(n.Right())...)
}

// fault tells what is wrong with a subtree that should be one of the tree with some members, or nothing. It does not visit many leaves.
func fault(got, same *node.Node, want []member) string {
	kind := min(len(want), api.Inner)
	switch {
	case got != same:
		return "another subtree than that of the tree"
	case got.Kind() != kind || got.Len() != len(want):
		return fmt.Sprintf("kind %d with %d keys, want kind %d with %d keys", got.Kind(), got.Len(), kind, len(want))
	case kind == api.Full && got.Leaf().Key != want[0].entry.Key:
		return fmt.Sprintf("the leaf of %x, want that of %x", got.Leaf().Key, want[0].entry.Key)
	}
	return ""
}

// checkLeaves checks which entries a subtree has.
func checkLeaves(t *testing.T, name string, n *node.Node, want []member) {
	t.Helper()
	same := func(a api.Entry, b member) bool { return a.Key == b.entry.Key && bytes.Equal(a.Value, b.entry.Value) }
	if got := leaves(n); !slices.EqualFunc(got, want, same) {
		t.Fatalf("%s: %d leaves %x, want %d", name, len(got), got, len(want))
	}
}

// checkWay checks Locate, Way and Siblings for a key.
func checkWay(t *testing.T, p plain, tree *node.Node, k api.Key) {
	t.Helper()
	digits, end, below := text(k), p.depth(k), p.prefixes(k)
	way, siblings := Way(tree, k), Siblings(tree, k)
	if len(way) != end+1 || len(siblings) != end {
		t.Fatalf("%s: %d subtrees on the way of %x and %d siblings, want %d and %d", p.name, len(way), k, len(siblings), end+1, end)
	}
	for d := range way {
		if f := fault(way[d], descend(tree, digits[:d]), below[d]); f != "" {
			t.Fatalf("%s: way of %x at depth %d: %s", p.name, k, d, f)
		}
	}
	for d := range siblings {
		beside := digits[:d] + other(digits[d])
		if f := fault(siblings[d], descend(tree, beside), begin(below[d], beside)); f != "" {
			t.Fatalf("%s: sibling of %x at depth %d: %s", p.name, k, d, f)
		}
	}
	n, depth := Locate(tree, k)
	if f := fault(n, way[end], below[end]); f != "" || depth != end {
		t.Fatalf("%s: Locate of %x = depth %d, want %d: %s", p.name, k, depth, end, f)
	}
}

// P8.1
func TestWaysOfKeys(t *testing.T) {
	h := hasher(t, 256)
	for _, p := range plains() {
		tree := p.tree(h)
		for _, k := range p.queries() {
			checkWay(t, p, tree, k)
		}
	}
}

// P8.1 to P8.3: ways do not depend on digests, which are all the same with 0 bits.
func TestWaysWithFewBits(t *testing.T) {
	for _, bits := range []int{0, 1, 12} {
		h := hasher(t, bits)
		for _, p := range plains()[:25] {
			tree := p.tree(h)
			for _, k := range p.queries() {
				checkWay(t, p, tree, k)
				checkGet(t, p, tree, k)
				checkUnder(t, p, tree, k, -1, 0, 1, p.depth(k)-1, p.depth(k), p.depth(k)+1, 256)
			}
		}
	}
}

// P8.1: the way in the tree without keys is the empty tree, with the depth 0.
func TestWayInTheTreeWithoutKeys(t *testing.T) {
	for _, k := range someKeys() {
		if n, depth := Locate(nil, k); n != nil || depth != 0 {
			t.Errorf("Locate = %v, %d", n, depth)
		}
		if way := Way(nil, k); len(way) != 1 || way[0] != nil {
			t.Errorf("Way = %v", way)
		}
		if l := Siblings(nil, k); len(l) != 0 {
			t.Errorf("Siblings = %v", l)
		}
	}
}

// P8.1: an empty subtree at the end of a way is a part of it, and empty siblings are listed too.
func TestEmptySubtreesOnAndBesideTheWay(t *testing.T) {
	p := ofKeys("0, 64 and 96", api.Key{}, api.Key{64}, api.Key{96})
	tree := p.tree(hasher(t, 256))
	way := Way(tree, api.Key{128})
	if len(way) != 2 || way[0] != tree || way[1] != nil {
		t.Errorf("Way of 128 = %v", way)
	}
	if n, depth := Locate(tree, api.Key{128}); n != nil || depth != 1 {
		t.Errorf("Locate of 128 = %v, %d", n, depth)
	}
	if l := Siblings(tree, api.Key{128}); len(l) != 1 || l[0] != tree.Left() || l[0].Len() != 3 {
		t.Errorf("Siblings of 128 = %v", l)
	}
	l := Siblings(tree, api.Key{64})
	if len(l) != 3 || l[0] != nil || l[1].Leaf().Key != (api.Key{}) || l[2].Leaf().Key != (api.Key{96}) {
		t.Errorf("Siblings of 64 = %v", l)
	}
}

// P8.1: the longest ways, of keys that differ in the last bit only, with empty siblings and with leaves beside.
func TestWaysOf256Levels(t *testing.T) {
	h := hasher(t, 256)
	for _, k := range someKeys() {
		last := flipped(k, 255)
		tree := ofKeys("last bit", k, last).tree(h)
		l, way := Siblings(tree, k), Way(tree, k)
		if len(l) != 256 || len(way) != 257 {
			t.Fatalf("%d siblings and %d subtrees", len(l), len(way))
		}
		for d, n := range l[:255] {
			if n != nil || way[d].Len() != 2 {
				t.Fatalf("depth %d: the sibling %v, and %d keys on the way", d, n, way[d].Len())
			}
		}
		if l[255].Leaf().Key != last || way[256].Leaf().Key != k {
			t.Errorf("the leaves %x and %x", l[255].Leaf(), way[256].Leaf())
		}
		if n, depth := Locate(tree, last); depth != 256 || n != l[255] {
			t.Errorf("Locate = %x, %d", n.Leaf(), depth)
		}
		for d, n := range Siblings(ofKeys("beside", neighbours(k)...).tree(h), k) {
			if n.Leaf().Key != flipped(k, d) {
				t.Errorf("depth %d: the sibling %x", d, n.Leaf())
			}
		}
	}
}

// checkGet checks Get for a key.
func checkGet(t *testing.T, p plain, tree *node.Node, k api.Key) {
	t.Helper()
	want := p.with(text(k))
	v, ok := Get(tree, k)
	switch {
	case ok != (len(want) == 1):
		t.Fatalf("%s: Get of %x = %v", p.name, k, ok)
	case ok && !bytes.Equal(v, want[0].entry.Value):
		t.Fatalf("%s: Get of %x = %q, want %q", p.name, k, v, want[0].entry.Value)
	case !ok && len(v) != 0:
		t.Fatalf("%s: Get of %x = %q without a value", p.name, k, v)
	}
}

// P8.2: keys that are in the map and such that are not, whose ways end at the leaf of another key or at an empty subtree.
func TestGetOfKeys(t *testing.T) {
	h := hasher(t, 256)
	for _, p := range plains() {
		tree := p.tree(h)
		for _, m := range p.members {
			checkGet(t, p, tree, m.entry.Key)
		}
		for _, k := range p.queries() {
			checkGet(t, p, tree, k)
		}
	}
}

// P8.2: in the tree of one key, all ways end at its leaf, which has the value of this key only.
func TestGetAtTheLeafOfAnotherKey(t *testing.T) {
	h := hasher(t, 256)
	for _, k := range someKeys() {
		tree := ofKeys("one key", k).tree(h)
		if v, ok := Get(tree, k); !ok || string(v) != "value 0" {
			t.Errorf("Get = %q, %v", v, ok)
		}
		for i := range 256 {
			if v, ok := Get(tree, flipped(k, i)); ok || len(v) != 0 {
				t.Errorf("Get of another key, in bit %d, = %q, %v", i, v, ok)
			}
			if n, depth := Locate(tree, flipped(k, i)); n != tree || depth != 0 {
				t.Errorf("Locate of another key, in bit %d, = %v, %d", i, n, depth)
			}
		}
	}
}

// P8.2: a value without bytes is a value, and long ones are returned as a whole.
func TestGetOfValues(t *testing.T) {
	h := hasher(t, 256)
	for _, v := range [][]byte{nil, {}, {0}, {3}, bytes.Repeat([]byte{7}, 65535), make([]byte, 65536)} {
		a := node.NewLeaf(h, api.Entry{Key: api.Key{1}, Value: v})
		b := node.NewLeaf(h, api.Entry{Key: api.Key{129}, Value: []byte("other")})
		for _, tree := range []*node.Node{a, node.Join(h, a, b)} {
			if got, ok := Get(tree, api.Key{1}); !ok || !bytes.Equal(got, v) {
				t.Errorf("Get = %d bytes, %v, want %d bytes", len(got), ok, len(v))
			}
		}
		if got, ok := Get(nil, api.Key{1}); ok || len(got) != 0 {
			t.Errorf("Get in the tree without keys = %q, %v", got, ok)
		}
	}
}

// P8.2: a value that was returned may be changed, with what is behind its length.
func TestGetCopiesTheValue(t *testing.T) {
	p := ofKeys("0, 128", api.Key{}, api.Key{128})
	h := hasher(t, 256)
	tree := p.tree(h)
	before := node.Digest(h, tree)
	first, _ := Get(tree, api.Key{128})
	for range 3 {
		v, ok := Get(tree, api.Key{128})
		if !ok || string(v) != "value 1" {
			t.Fatalf("Get = %q, %v", v, ok)
		}
		for i := range v[:cap(v)] {
			v[:cap(v)][i] ^= 255
		}
		_ = append(v, 1, 2, 3)
		if string(first) != "value 1" {
			t.Fatalf("the value of a call before is %q", first)
		}
		checkLeaves(t, "after a change", tree, p.members)
	}
	if node.Digest(h, tree) != before {
		t.Error("the digest is another one")
	}
}

// checkUnder checks Under for a key and some numbers of bits.
func checkUnder(t *testing.T, p plain, tree *node.Node, k api.Key, numbers ...int) {
	t.Helper()
	digits, end, below := text(k), p.depth(k), p.prefixes(k)
	for _, bits := range numbers {
		d := limited(bits)
		var same *node.Node
		if len(below[d]) > 0 {
			same = descend(tree, digits[:min(d, end)])
		}
		if f := fault(Under(tree, k, bits), same, below[d]); f != "" {
			t.Fatalf("%s: Under of %x, %d bits, whose way has the depth %d: %s", p.name, k, bits, end, f)
		}
	}
}

// P8.3: for all numbers of bits.
func TestUnder(t *testing.T) {
	h := hasher(t, 256)
	for _, p := range plains() {
		tree := p.tree(h)
		for _, k := range p.queries() {
			checkUnder(t, p, tree, k, someInts()...)
		}
	}
}

// P8.3: no bits are those of each key, and each way is at an end with 256 bits.
func TestUnderAtItsLimits(t *testing.T) {
	h := hasher(t, 256)
	for _, p := range plains() {
		tree := p.tree(h)
		for _, k := range p.queries() {
			for _, bits := range []int{math.MinInt, -256, -1, 0} {
				if Under(tree, k, bits) != tree {
					t.Fatalf("%s: Under of %x, %d bits, is not the tree", p.name, k, bits)
				}
			}
			for _, bits := range []int{256, 257, math.MaxInt} {
				got := leaves(Under(tree, k, bits))
				if v, ok := Get(tree, k); len(got) > 1 || ok != (len(got) == 1) || ok && (got[0].Key != k || !bytes.Equal(got[0].Value, v)) {
					t.Fatalf("%s: Under of %x, %d bits, = %x", p.name, k, bits, got)
				}
			}
		}
	}
}

// P8.3: the end of a way stands for all depths below it, as long as its first bits are those of the key.
func TestUnderBelowTheEnd(t *testing.T) {
	h := hasher(t, 256)
	tree := ofKeys("0, 64 and 255", api.Key{}, api.Key{64}, api.Key{255}).tree(h)
	last := tree.Right()
	for _, c := range []struct {
		name  string
		first byte
		bits  int
		want  *node.Node
	}{
		{"the tree", 128, 0, tree},
		{"the end itself", 128, 1, last},
		{"a leaf with another bit 1", 128, 2, nil},
		{"a leaf with the same bit 1", 192, 2, last},
		{"a leaf with another bit 2", 192, 3, nil},
		{"the same byte", 255, 8, last},
		{"the same key", 255, 256, last},
		{"an inner node", 0, 1, tree.Left()},
		{"an inner node, another key", 127, 1, tree.Left()},
		{"the first leaf", 63, 2, tree.Left().Left()},
		{"the first leaf, another bit 2", 63, 3, nil},
		{"the second leaf", 64, 256, tree.Left().Right()},
	} {
		if got := Under(tree, api.Key{c.first}, c.bits); got != c.want {
			t.Errorf("%s: %x, want %x", c.name, leaves(got), leaves(c.want))
		}
	}
	for bits := range 258 {
		if Under(last, api.Key{255}, bits) != last {
			t.Errorf("the tree of one key, %d bits: another subtree", bits)
		}
		if got := Under(last, api.Key{254, 255}, bits); (got == last) != (bits <= 7) || got != nil && got != last {
			t.Errorf("the tree of one key, another one, %d bits: %x", bits, leaves(got))
		}
		if Under(nil, api.Key{255}, bits) != nil {
			t.Errorf("the tree without keys, %d bits: not empty", bits)
		}
	}
}

// P8.3: the subtree is empty below an empty end.
func TestUnderBelowAnEmptyEnd(t *testing.T) {
	tree := ofKeys("0 and 1", api.Key{}, api.Key{1}).tree(hasher(t, 256))
	for _, bits := range someInts() {
		want := tree
		if bits > 0 {
			want = nil
		}
		if got := Under(tree, api.Key{128}, bits); got != want {
			t.Errorf("%d bits: %x", bits, leaves(got))
		}
	}
}

// P8.3: the leaves below are those of the keys with the first bits.
func TestLeavesUnder(t *testing.T) {
	h := hasher(t, 256)
	for _, p := range plains() {
		tree := p.tree(h)
		for _, k := range p.queries() {
			for _, bits := range []int{-1, 1, 2, 7, 8, 9, p.depth(k) - 1, p.depth(k), p.depth(k) + 1, 255} {
				name := fmt.Sprintf("%s: under %d bits of %x", p.name, bits, k)
				checkLeaves(t, name, Under(tree, k, bits), p.with(text(k)[:limited(bits)]))
			}
		}
	}
}

// P8.4: bits other than 0 lead to the right.
func TestChild(t *testing.T) {
	h := hasher(t, 256)
	a, b := node.NewLeaf(h, api.Entry{Key: api.Key{1}}), node.NewLeaf(h, api.Entry{Key: api.Key{2}})
	both := node.Join(h, a, b)
	for _, n := range []*node.Node{both, node.Join(h, b, a), node.Join(h, a, a), node.Join(h, nil, both), node.Join(h, both, nil), node.Join(h, both, a), a, nil} {
		if got := Child(n, 0); got != n.Left() {
			t.Errorf("Child of kind %d, bit 0, = %v", n.Kind(), got)
		}
		for _, bit := range someInts() {
			if bit == 0 {
				continue
			}
			if got := Child(n, bit); got != n.Right() {
				t.Errorf("Child of kind %d, bit %d, = %v", n.Kind(), bit, got)
			}
		}
	}
	if Child(both, 0) != a || Child(both, 1) != b || Child(both, -1) != b || Child(both, 2) != b {
		t.Error("Child of two leaves is another subtree")
	}
}

// P8.4 and P1: Child is specified for all subtrees, also for those of more levels than a tree has.
func TestChildOfManyLevels(t *testing.T) {
	const levels = 1 << 16
	h := hasher(t, 0)
	a := node.NewLeaf(h, api.Entry{Key: api.Key{1}})
	n := node.Join(h, a, a)
	for range levels {
		n = node.Join(h, n, nil)
	}
	for range levels {
		if Child(n, 1) != nil {
			t.Fatal("a subtree that is empty is another one")
		}
		n = Child(n, 0)
	}
	if Child(n, 0) != a || Child(n, 1) != a || Child(a, 0) != nil || Child(a, 1) != nil {
		t.Error("other subtrees at the end")
	}
}

// P8.5: a key is in the map exactly if its way ends at a leaf with this key.
func TestKeysOfTheMapEndAtTheirLeaf(t *testing.T) {
	h := hasher(t, 256)
	for _, p := range plains() {
		tree, in := p.tree(h), map[api.Key]bool{}
		l := p.queries()
		for _, m := range p.members {
			in[m.entry.Key] = true
			l = append(l, m.entry.Key)
		}
		for _, k := range l {
			n, _ := Locate(tree, k)
			if ends := n.Kind() == api.Full && n.Leaf().Key == k; ends != in[k] {
				t.Fatalf("%s: the way of %x ends at its leaf: %v", p.name, k, ends)
			}
			if _, ok := Get(tree, k); ok != in[k] {
				t.Fatalf("%s: Get of %x = %v", p.name, k, ok)
			}
		}
	}
}

// P8.5: all keys below a subtree on the way have the first bits of the key, and no key beside it has.
func TestKeysBelowTheWay(t *testing.T) {
	h := hasher(t, 256)
	for _, p := range plains() {
		if len(p.members) > 100 {
			continue
		}
		tree := p.tree(h)
		for _, k := range p.queries() {
			digits := text(k)
			for d, n := range Way(tree, k) {
				checkLeaves(t, fmt.Sprintf("%s: way of %x at depth %d", p.name, k, d), n, p.with(digits[:d]))
			}
			for d, n := range Siblings(tree, k) {
				checkLeaves(t, fmt.Sprintf("%s: beside %x at depth %d", p.name, k, d), n, p.with(digits[:d]+other(digits[d])))
			}
		}
	}
}

// Rule 4 of the document: slices that were returned may be changed.
func TestListsAreNew(t *testing.T) {
	h := hasher(t, 256)
	for _, p := range plains() {
		tree := p.tree(h)
		for _, k := range p.queries()[:4] {
			way, siblings := Way(tree, k), Siblings(tree, k)
			clear(way[:cap(way)])
			clear(siblings[:cap(siblings)])
			checkWay(t, p, tree, k)
		}
	}
}

// P2: trees are not changed, and their subtrees are as before.
func TestTreesAreNotChanged(t *testing.T) {
	h := hasher(t, 256)
	for _, p := range plains() {
		tree := p.tree(h)
		before := node.Digest(h, tree)
		for _, k := range p.queries() {
			Locate(tree, k)
			Get(tree, k)
			Siblings(tree, k)
			Way(tree, k)
			Child(tree, 0)
			for bits := -1; bits < 258; bits += 37 {
				Under(tree, k, bits)
			}
		}
		checkLeaves(t, p.name, tree, p.members)
		if node.Digest(h, tree) != before {
			t.Errorf("%s: another digest", p.name)
		}
	}
}

// Rule 6 of the document: the functions may be called concurrently.
func TestConcurrentCalls(t *testing.T) {
	h := hasher(t, 256)
	p := largePlains()[3]
	tree, queries := p.tree(h), p.queries()
	var wait sync.WaitGroup
	for range 8 {
		wait.Go(func() {
			for _, k := range queries {
				way, siblings := Way(tree, k), Siblings(tree, k)
				n, depth := Locate(tree, k)
				_, ok := Get(tree, k)
				if depth != p.depth(k) || len(way) != depth+1 || len(siblings) != depth || way[depth] != n || Under(tree, k, depth) != n || ok != (len(p.with(text(k))) == 1) {
					t.Errorf("other results for %x", k)
				}
			}
		})
	}
	wait.Wait()
}

// The examples of chapter 8, and the second and the third one of the document, as far as they tell of ways.
func TestExamples(t *testing.T) {
	h := hasher(t, 256)
	two := ofKeys("0, 128", api.Key{}, api.Key{128}).tree(h)
	n, depth := Locate(two, api.Key{})
	if depth != 1 || n.Leaf().Key != (api.Key{}) {
		t.Errorf("the way of the first of two keys ends at %x, depth %d", n.Leaf(), depth)
	}
	if l := Siblings(two, api.Key{}); len(l) != 1 || l[0].Leaf().Key != (api.Key{128}) {
		t.Errorf("the way of the first of two keys has the siblings %v", l)
	}
	one := ofKeys("0", api.Key{}).tree(h)
	for _, k := range someKeys() {
		if n, depth := Locate(one, k); n != one || depth != 0 {
			t.Errorf("in the tree of one key, the way of %x ends at depth %d", k, depth)
		}
	}
	n, depth = Locate(ofKeys("0, 255", api.Key{}, api.Key{255}).tree(h), api.Key{128})
	if depth != 1 || n.Leaf().Key != (api.Key{255}) {
		t.Errorf("the way of the key 128 ends at %x, depth %d", n.Leaf(), depth)
	}
}
