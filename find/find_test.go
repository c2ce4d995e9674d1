package find

import (
	"bytes"
	"fmt"
	"math"
	"slices"
	"sync"
	"testing"

	"sparsetree/api"
	"sparsetree/internal/plain"
	"sparsetree/node"
)

// limited is a number of bits, limited to the range from 0 to 256.
func limited(n int) int {
	switch {
	case n < 0:
		return 0
	case n > 256:
		return 256
	}
	return n
}

// descend follows digits from a subtree on, independently of Child.
func descend(n *node.Node, digits string) *node.Node {
	for _, x := range digits {
		if x == '0' {
			n = n.Left()
		} else {
			n = n.Right()
		}
	}
	return n
}

// other is the digit that is not d.
func other(d byte) string { return string(d ^ 1) }

// fault tells what is wrong with a subtree that should be one of the tree with some members, or nothing. It does not visit many leaves.
func fault(got, same *node.Node, want []plain.Member) string {
	kind := min(len(want), api.Inner)
	switch {
	case got != same:
		return "another subtree than that of the tree"
	case got.Kind() != kind || got.Len() != len(want):
		return fmt.Sprintf("kind %d with %d keys, want kind %d with %d keys", got.Kind(), got.Len(), kind, len(want))
	case kind == api.Full && got.Leaf().Key != want[0].Entry.Key:
		return fmt.Sprintf("the leaf of %x, want that of %x", got.Leaf().Key, want[0].Entry.Key)
	}
	return ""
}

// checkLeaves checks which entries a subtree has.
func checkLeaves(t *testing.T, name string, n *node.Node, want []plain.Member) {
	t.Helper()
	same := func(a api.Entry, b plain.Member) bool {
		return a.Key == b.Entry.Key && bytes.Equal(a.Value, b.Entry.Value)
	}
	if got := plain.Leaves(n); !slices.EqualFunc(got, want, same) {
		t.Fatalf("%s: %d leaves %x, want %d", name, len(got), got, len(want))
	}
}

// checkWay checks Locate, Way and Siblings for a key.
func checkWay(t *testing.T, p plain.Map, tree *node.Node, k api.Key) {
	t.Helper()
	digits, end, below := plain.Text(k), p.Depth(k), p.Prefixes(k)
	way, siblings := Way(tree, k), Siblings(tree, k)
	if len(way) != end+1 || len(siblings) != end {
		t.Fatalf("%s: %d subtrees on the way of %x and %d siblings, want %d and %d", p.Name, len(way), k, len(siblings), end+1, end)
	}
	for d := range way {
		if f := fault(way[d], descend(tree, digits[:d]), below[d]); f != "" {
			t.Fatalf("%s: way of %x at depth %d: %s", p.Name, k, d, f)
		}
	}
	for d := range siblings {
		beside := digits[:d] + other(digits[d])
		if f := fault(siblings[d], descend(tree, beside), plain.Begin(below[d], beside)); f != "" {
			t.Fatalf("%s: sibling of %x at depth %d: %s", p.Name, k, d, f)
		}
	}
	n, depth := Locate(tree, k)
	if f := fault(n, way[end], below[end]); f != "" || depth != end {
		t.Fatalf("%s: Locate of %x = depth %d, want %d: %s", p.Name, k, depth, end, f)
	}
}

// P8.1
func TestWaysOfKeys(t *testing.T) {
	h := plain.Hasher(256)
	for _, p := range plain.Maps() {
		tree := p.Tree(h)
		for _, k := range p.Queries() {
			checkWay(t, p, tree, k)
		}
	}
}

// P8.1 to P8.3: ways do not depend on digests, which are all the same with 0 bits.
func TestWaysWithFewBits(t *testing.T) {
	for _, bits := range []int{0, 1, 12} {
		h := plain.Hasher(bits)
		for _, p := range plain.Maps()[:25] {
			tree := p.Tree(h)
			for _, k := range p.Queries() {
				checkWay(t, p, tree, k)
				checkGet(t, p, tree, k)
				checkUnder(t, p, tree, k, -1, 0, 1, p.Depth(k)-1, p.Depth(k), p.Depth(k)+1, 256)
			}
		}
	}
}

// P8.1: the way in the tree without keys is the empty tree, with the depth 0.
func TestWayInTheTreeWithoutKeys(t *testing.T) {
	for _, k := range plain.Keys() {
		if n, depth := Locate(nil, k); n != nil || depth != 0 {
			t.Errorf("Locate = %v, %d", n, depth)
		}
		if way := Way(nil, k); len(way) != 1 || way[0] != nil {
			t.Errorf("Way = %v", way)
		}
		if l := Siblings(nil, k); len(l) != 0 {
			t.Errorf("Siblings = %v", l)
		}
	}
}

// P8.1: an empty subtree at the end of a way is a part of it, and empty siblings are listed too.
func TestEmptySubtreesOnAndBesideTheWay(t *testing.T) {
	p := plain.OfKeys("0, 64 and 96", api.Key{}, api.Key{64}, api.Key{96})
	tree := p.Tree(plain.Hasher(256))
	way := Way(tree, api.Key{128})
	if len(way) != 2 || way[0] != tree || way[1] != nil {
		t.Errorf("Way of 128 = %v", way)
	}
	if n, depth := Locate(tree, api.Key{128}); n != nil || depth != 1 {
		t.Errorf("Locate of 128 = %v, %d", n, depth)
	}
	if l := Siblings(tree, api.Key{128}); len(l) != 1 || l[0] != tree.Left() || l[0].Len() != 3 {
		t.Errorf("Siblings of 128 = %v", l)
	}
	l := Siblings(tree, api.Key{64})
	if len(l) != 3 || l[0] != nil || l[1].Leaf().Key != (api.Key{}) || l[2].Leaf().Key != (api.Key{96}) {
		t.Errorf("Siblings of 64 = %v", l)
	}
}

// P8.1: the longest ways, of keys that differ in the last bit only, with empty siblings and with leaves beside.
func TestWaysOf256Levels(t *testing.T) {
	h := plain.Hasher(256)
	for _, k := range plain.Keys() {
		last := plain.Flipped(k, 255)
		tree := plain.OfKeys("last bit", k, last).Tree(h)
		l, way := Siblings(tree, k), Way(tree, k)
		if len(l) != 256 || len(way) != 257 {
			t.Fatalf("%d siblings and %d subtrees", len(l), len(way))
		}
		for d, n := range l[:255] {
			if n != nil || way[d].Len() != 2 {
				t.Fatalf("depth %d: the sibling %v, and %d keys on the way", d, n, way[d].Len())
			}
		}
		if l[255].Leaf().Key != last || way[256].Leaf().Key != k {
			t.Errorf("the leaves %x and %x", l[255].Leaf(), way[256].Leaf())
		}
		if n, depth := Locate(tree, last); depth != 256 || n != l[255] {
			t.Errorf("Locate = %x, %d", n.Leaf(), depth)
		}
		for d, n := range Siblings(plain.OfKeys("beside", plain.Neighbours(k)...).Tree(h), k) {
			if n.Leaf().Key != plain.Flipped(k, d) {
				t.Errorf("depth %d: the sibling %x", d, n.Leaf())
			}
		}
	}
}

// checkGet checks Get for a key.
func checkGet(t *testing.T, p plain.Map, tree *node.Node, k api.Key) {
	t.Helper()
	want := p.With(plain.Text(k))
	v, ok := Get(tree, k)
	switch {
	case ok != (len(want) == 1):
		t.Fatalf("%s: Get of %x = %v", p.Name, k, ok)
	case ok && !bytes.Equal(v, want[0].Entry.Value):
		t.Fatalf("%s: Get of %x = %q, want %q", p.Name, k, v, want[0].Entry.Value)
	case !ok && len(v) != 0:
		t.Fatalf("%s: Get of %x = %q without a value", p.Name, k, v)
	}
}

// P8.2: keys that are in the map and such that are not, whose ways end at the leaf of another key or at an empty subtree.
func TestGetOfKeys(t *testing.T) {
	h := plain.Hasher(256)
	for _, p := range plain.Maps() {
		tree := p.Tree(h)
		for _, m := range p.Members {
			checkGet(t, p, tree, m.Entry.Key)
		}
		for _, k := range p.Queries() {
			checkGet(t, p, tree, k)
		}
	}
}

// P8.2: in the tree of one key, all ways end at its leaf, which has the value of this key only.
func TestGetAtTheLeafOfAnotherKey(t *testing.T) {
	h := plain.Hasher(256)
	for _, k := range plain.Keys() {
		tree := plain.OfKeys("one key", k).Tree(h)
		if v, ok := Get(tree, k); !ok || string(v) != "value 0" {
			t.Errorf("Get = %q, %v", v, ok)
		}
		for i := range 256 {
			if v, ok := Get(tree, plain.Flipped(k, i)); ok || len(v) != 0 {
				t.Errorf("Get of another key, in bit %d, = %q, %v", i, v, ok)
			}
			if n, depth := Locate(tree, plain.Flipped(k, i)); n != tree || depth != 0 {
				t.Errorf("Locate of another key, in bit %d, = %v, %d", i, n, depth)
			}
		}
	}
}

// P8.2: a value without bytes is a value, and long ones are returned as a whole.
func TestGetOfValues(t *testing.T) {
	h := plain.Hasher(256)
	for _, v := range [][]byte{nil, {}, {0}, {3}, bytes.Repeat([]byte{7}, 65535), make([]byte, 65536)} {
		a := node.NewLeaf(h, api.Entry{Key: api.Key{1}, Value: v})
		b := node.NewLeaf(h, api.Entry{Key: api.Key{129}, Value: []byte("other")})
		for _, tree := range []*node.Node{a, node.Join(h, a, b)} {
			if got, ok := Get(tree, api.Key{1}); !ok || !bytes.Equal(got, v) {
				t.Errorf("Get = %d bytes, %v, want %d bytes", len(got), ok, len(v))
			}
		}
		if got, ok := Get(nil, api.Key{1}); ok || len(got) != 0 {
			t.Errorf("Get in the tree without keys = %q, %v", got, ok)
		}
	}
}

// P8.2: a value that was returned may be changed, with what is behind its length.
func TestGetCopiesTheValue(t *testing.T) {
	p := plain.OfKeys("0, 128", api.Key{}, api.Key{128})
	h := plain.Hasher(256)
	tree := p.Tree(h)
	before := node.Digest(h, tree)
	first, _ := Get(tree, api.Key{128})
	for range 3 {
		v, ok := Get(tree, api.Key{128})
		if !ok || string(v) != "value 1" {
			t.Fatalf("Get = %q, %v", v, ok)
		}
		for i := range v[:cap(v)] {
			v[:cap(v)][i] ^= 255
		}
		_ = append(v, 1, 2, 3)
		if string(first) != "value 1" {
			t.Fatalf("the value of a call before is %q", first)
		}
		checkLeaves(t, "after a change", tree, p.Members)
	}
	if node.Digest(h, tree) != before {
		t.Error("the digest is another one")
	}
}

// checkUnder checks Under for a key and some numbers of bits.
func checkUnder(t *testing.T, p plain.Map, tree *node.Node, k api.Key, numbers ...int) {
	t.Helper()
	digits, end, below := plain.Text(k), p.Depth(k), p.Prefixes(k)
	for _, bits := range numbers {
		d := limited(bits)
		var same *node.Node
		if len(below[d]) > 0 {
			same = descend(tree, digits[:min(d, end)])
		}
		if f := fault(Under(tree, k, bits), same, below[d]); f != "" {
			t.Fatalf("%s: Under of %x, %d bits, whose way has the depth %d: %s", p.Name, k, bits, end, f)
		}
	}
}

// P8.3: for all numbers of bits.
func TestUnder(t *testing.T) {
	h := plain.Hasher(256)
	for _, p := range plain.Maps() {
		tree := p.Tree(h)
		for _, k := range p.Queries() {
			checkUnder(t, p, tree, k, plain.Numbers()...)
		}
	}
}

// P8.3: no bits are those of each key, and each way is at an end with 256 bits.
func TestUnderAtItsLimits(t *testing.T) {
	h := plain.Hasher(256)
	for _, p := range plain.Maps() {
		tree := p.Tree(h)
		for _, k := range p.Queries() {
			for _, bits := range []int{math.MinInt, -256, -1, 0} {
				if Under(tree, k, bits) != tree {
					t.Fatalf("%s: Under of %x, %d bits, is not the tree", p.Name, k, bits)
				}
			}
			for _, bits := range []int{256, 257, math.MaxInt} {
				got := plain.Leaves(Under(tree, k, bits))
				if v, ok := Get(tree, k); len(got) > 1 || ok != (len(got) == 1) || ok && (got[0].Key != k || !bytes.Equal(got[0].Value, v)) {
					t.Fatalf("%s: Under of %x, %d bits, = %x", p.Name, k, bits, got)
				}
			}
		}
	}
}

// P8.3: the end of a way stands for all depths below it, as long as its first bits are those of the key.
func TestUnderBelowTheEnd(t *testing.T) {
	h := plain.Hasher(256)
	tree := plain.OfKeys("0, 64 and 255", api.Key{}, api.Key{64}, api.Key{255}).Tree(h)
	last := tree.Right()
	for _, c := range []struct {
		name  string
		first byte
		bits  int
		want  *node.Node
	}{
		{"the tree", 128, 0, tree},
		{"the end itself", 128, 1, last},
		{"a leaf with another bit 1", 128, 2, nil},
		{"a leaf with the same bit 1", 192, 2, last},
		{"a leaf with another bit 2", 192, 3, nil},
		{"the same byte", 255, 8, last},
		{"the same key", 255, 256, last},
		{"an inner node", 0, 1, tree.Left()},
		{"an inner node, another key", 127, 1, tree.Left()},
		{"the first leaf", 63, 2, tree.Left().Left()},
		{"the first leaf, another bit 2", 63, 3, nil},
		{"the second leaf", 64, 256, tree.Left().Right()},
	} {
		if got := Under(tree, api.Key{c.first}, c.bits); got != c.want {
			t.Errorf("%s: %x, want %x", c.name, plain.Leaves(got), plain.Leaves(c.want))
		}
	}
	for bits := range 258 {
		if Under(last, api.Key{255}, bits) != last {
			t.Errorf("the tree of one key, %d bits: another subtree", bits)
		}
		if got := Under(last, api.Key{254, 255}, bits); (got == last) != (bits <= 7) || got != nil && got != last {
			t.Errorf("the tree of one key, another one, %d bits: %x", bits, plain.Leaves(got))
		}
		if Under(nil, api.Key{255}, bits) != nil {
			t.Errorf("the tree without keys, %d bits: not empty", bits)
		}
	}
}

// P8.3: the subtree is empty below an empty end.
func TestUnderBelowAnEmptyEnd(t *testing.T) {
	tree := plain.OfKeys("0 and 1", api.Key{}, api.Key{1}).Tree(plain.Hasher(256))
	for _, bits := range plain.Numbers() {
		want := tree
		if bits > 0 {
			want = nil
		}
		if got := Under(tree, api.Key{128}, bits); got != want {
			t.Errorf("%d bits: %x", bits, plain.Leaves(got))
		}
	}
}

// P8.3: the leaves below are those of the keys with the first bits.
func TestLeavesUnder(t *testing.T) {
	h := plain.Hasher(256)
	for _, p := range plain.Maps() {
		tree := p.Tree(h)
		for _, k := range p.Queries() {
			for _, bits := range []int{-1, 1, 2, 7, 8, 9, p.Depth(k) - 1, p.Depth(k), p.Depth(k) + 1, 255} {
				name := fmt.Sprintf("%s: under %d bits of %x", p.Name, bits, k)
				checkLeaves(t, name, Under(tree, k, bits), p.With(plain.Text(k)[:limited(bits)]))
			}
		}
	}
}

// P8.4: bits other than 0 lead to the right.
func TestChild(t *testing.T) {
	h := plain.Hasher(256)
	a, b := node.NewLeaf(h, api.Entry{Key: api.Key{1}}), node.NewLeaf(h, api.Entry{Key: api.Key{2}})
	both := node.Join(h, a, b)
	for _, n := range []*node.Node{both, node.Join(h, b, a), node.Join(h, a, a), node.Join(h, nil, both), node.Join(h, both, nil), node.Join(h, both, a), a, nil} {
		if got := Child(n, 0); got != n.Left() {
			t.Errorf("Child of kind %d, bit 0, = %v", n.Kind(), got)
		}
		for _, bit := range plain.Numbers() {
			if bit == 0 {
				continue
			}
			if got := Child(n, bit); got != n.Right() {
				t.Errorf("Child of kind %d, bit %d, = %v", n.Kind(), bit, got)
			}
		}
	}
	if Child(both, 0) != a || Child(both, 1) != b || Child(both, -1) != b || Child(both, 2) != b {
		t.Error("Child of two leaves is another subtree")
	}
}

// P8.4 and P1: Child is specified for all subtrees, also for those of more levels than a tree has.
func TestChildOfManyLevels(t *testing.T) {
	const levels = 1 << 16
	h := plain.Hasher(0)
	a := node.NewLeaf(h, api.Entry{Key: api.Key{1}})
	n := node.Join(h, a, a)
	for range levels {
		n = node.Join(h, n, nil)
	}
	for range levels {
		if Child(n, 1) != nil {
			t.Fatal("a subtree that is empty is another one")
		}
		n = Child(n, 0)
	}
	if Child(n, 0) != a || Child(n, 1) != a || Child(a, 0) != nil || Child(a, 1) != nil {
		t.Error("other subtrees at the end")
	}
}

// P8.5: a key is in the map exactly if its way ends at a leaf with this key.
func TestKeysOfTheMapEndAtTheirLeaf(t *testing.T) {
	h := plain.Hasher(256)
	for _, p := range plain.Maps() {
		tree, in := p.Tree(h), map[api.Key]bool{}
		l := p.Queries()
		for _, m := range p.Members {
			in[m.Entry.Key] = true
			l = append(l, m.Entry.Key)
		}
		for _, k := range l {
			n, _ := Locate(tree, k)
			if ends := n.Kind() == api.Full && n.Leaf().Key == k; ends != in[k] {
				t.Fatalf("%s: the way of %x ends at its leaf: %v", p.Name, k, ends)
			}
			if _, ok := Get(tree, k); ok != in[k] {
				t.Fatalf("%s: Get of %x = %v", p.Name, k, ok)
			}
		}
	}
}

// P8.5: all keys below a subtree on the way have the first bits of the key, and no key beside it has.
func TestKeysBelowTheWay(t *testing.T) {
	h := plain.Hasher(256)
	for _, p := range plain.Maps() {
		if len(p.Members) > 100 {
			continue
		}
		tree := p.Tree(h)
		for _, k := range p.Queries() {
			digits := plain.Text(k)
			for d, n := range Way(tree, k) {
				checkLeaves(t, fmt.Sprintf("%s: way of %x at depth %d", p.Name, k, d), n, p.With(digits[:d]))
			}
			for d, n := range Siblings(tree, k) {
				checkLeaves(t, fmt.Sprintf("%s: beside %x at depth %d", p.Name, k, d), n, p.With(digits[:d]+other(digits[d])))
			}
		}
	}
}

// Rule 4 of the document: slices that were returned may be changed.
func TestListsAreNew(t *testing.T) {
	h := plain.Hasher(256)
	for _, p := range plain.Maps() {
		tree := p.Tree(h)
		for _, k := range p.Queries()[:4] {
			way, siblings := Way(tree, k), Siblings(tree, k)
			clear(way[:cap(way)])
			clear(siblings[:cap(siblings)])
			checkWay(t, p, tree, k)
		}
	}
}

// P2: trees are not changed, and their subtrees are as before.
func TestTreesAreNotChanged(t *testing.T) {
	h := plain.Hasher(256)
	for _, p := range plain.Maps() {
		tree := p.Tree(h)
		before := node.Digest(h, tree)
		for _, k := range p.Queries() {
			Locate(tree, k)
			Get(tree, k)
			Siblings(tree, k)
			Way(tree, k)
			Child(tree, 0)
			for bits := -1; bits < 258; bits += 37 {
				Under(tree, k, bits)
			}
		}
		checkLeaves(t, p.Name, tree, p.Members)
		if node.Digest(h, tree) != before {
			t.Errorf("%s: another digest", p.Name)
		}
	}
}

// Rule 6 of the document: the functions may be called concurrently.
func TestConcurrentCalls(t *testing.T) {
	h := plain.Hasher(256)
	p := plain.Large()[3]
	tree, queries := p.Tree(h), p.Queries()
	var wait sync.WaitGroup
	for range 8 {
		wait.Go(func() {
			for _, k := range queries {
				way, siblings := Way(tree, k), Siblings(tree, k)
				n, depth := Locate(tree, k)
				_, ok := Get(tree, k)
				if depth != p.Depth(k) || len(way) != depth+1 || len(siblings) != depth || way[depth] != n || Under(tree, k, depth) != n || ok != (len(p.With(plain.Text(k))) == 1) {
					t.Errorf("other results for %x", k)
				}
			}
		})
	}
	wait.Wait()
}

// The examples of chapter 8, and the second and the third one of the document, as far as they tell of ways.
func TestExamples(t *testing.T) {
	h := plain.Hasher(256)
	two := plain.OfKeys("0, 128", api.Key{}, api.Key{128}).Tree(h)
	n, depth := Locate(two, api.Key{})
	if depth != 1 || n.Leaf().Key != (api.Key{}) {
		t.Errorf("the way of the first of two keys ends at %x, depth %d", n.Leaf(), depth)
	}
	if l := Siblings(two, api.Key{}); len(l) != 1 || l[0].Leaf().Key != (api.Key{128}) {
		t.Errorf("the way of the first of two keys has the siblings %v", l)
	}
	one := plain.OfKeys("0", api.Key{}).Tree(h)
	for _, k := range plain.Keys() {
		if n, depth := Locate(one, k); n != one || depth != 0 {
			t.Errorf("in the tree of one key, the way of %x ends at depth %d", k, depth)
		}
	}
	n, depth = Locate(plain.OfKeys("0, 255", api.Key{}, api.Key{255}).Tree(h), api.Key{128})
	if depth != 1 || n.Leaf().Key != (api.Key{255}) {
		t.Errorf("the way of the key 128 ends at %x, depth %d", n.Leaf(), depth)
	}
}
