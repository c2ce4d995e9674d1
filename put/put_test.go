package put

import (
	"bytes"
	"fmt"
	"math"
	"slices"
	"sync"
	"testing"

	"sparsetree/api"
	"sparsetree/digest"
	"sparsetree/find"
	"sparsetree/internal/plain"
	"sparsetree/node"
)

// checkTree checks that a tree, or a subtree, is the same one as another.
func checkTree(t *testing.T, name string, h *digest.Hasher, got, want *node.Node) {
	t.Helper()
	if d := plain.Difference(h, got, want); d != "" {
		t.Fatalf("%s: %s", name, d)
	}
}

// checkPut checks Put of an entry to the tree of a map.
func checkPut(t *testing.T, h *digest.Hasher, m plain.Map, e api.Entry) {
	t.Helper()
	name := fmt.Sprintf("%s, Put of %x", m.Name, e.Key)
	got := Put(h, m.Tree(h), e)
	checkTree(t, name, h, got, m.Put(e).Tree(h))
	if v, ok := find.Get(got, e.Key); !ok || !bytes.Equal(v, e.Value) {
		t.Fatalf("%s: the value is %q, %v, want %q", name, v, ok, e.Value)
	}
}

// P9.1: keys that are in the map and such that are not, beside leaves, and at and below empty subtrees.
func TestPutOfKeys(t *testing.T) {
	h := plain.Hasher(256)
	for _, m := range plain.Maps() {
		for i, k := range m.Queries() {
			checkPut(t, h, m, api.Entry{Key: k, Value: fmt.Append(nil, "put ", i)})
		}
	}
}

// P9.1: for each number of bits, trees have the same keys and values.
func TestPutWithFewBits(t *testing.T) {
	for _, n := range []int{0, 1, 12, 255} {
		h := plain.Hasher(n)
		for _, m := range plain.Maps()[:12] {
			for _, k := range m.Queries() {
				checkPut(t, h, m, api.Entry{Key: k, Value: []byte("put")})
			}
		}
	}
}

// P9.1: in the tree without keys, the result is the leaf.
func TestPutToTheTreeWithoutKeys(t *testing.T) {
	for _, n := range plain.Bits() {
		h := plain.Hasher(n)
		for _, k := range plain.Keys() {
			for _, v := range [][]byte{nil, {}, {0}, []byte("value")} {
				e := api.Entry{Key: k, Value: v}
				got := Put(h, nil, e)
				if got.Kind() != api.Full || got.Leaf().Key != k || !bytes.Equal(got.Entry().Value, v) {
					t.Fatalf("%d bits, key %x: a subtree of kind %d with %v", n, k, got.Kind(), got.Entry())
				}
				checkTree(t, "a single key", h, got, node.NewLeaf(h, e))
			}
		}
	}
}

// P9.1: a key that is in the map already, with the same value and with other ones.
func TestPutOfAKeyInTheMap(t *testing.T) {
	h := plain.Hasher(256)
	for _, m := range plain.Maps() {
		for i, x := range m.Members {
			if i%max(1, len(m.Members)/3) != 0 {
				continue
			}
			k, v := x.Entry.Key, x.Entry.Value
			for _, other := range [][]byte{v, bytes.Clone(v), nil, {}, {0}, append(bytes.Clone(v), 0), []byte("another value")} {
				checkPut(t, h, m, api.Entry{Key: k, Value: other})
			}
		}
	}
}

// P9.1: a key that differs from one of the map in a single bit, each one from the first to the last.
func TestPutBesideAKey(t *testing.T) {
	h := plain.Hasher(256)
	for _, k := range plain.Keys()[5:] {
		one := plain.OfKeys("one key", k)
		for i := range 256 {
			other := plain.Flipped(k, i)
			checkPut(t, h, one, api.Entry{Key: other, Value: []byte("beside")})
			n, depth := find.Locate(Put(h, one.Tree(h), api.Entry{Key: other}), other)
			if depth != i+1 || n.Leaf().Key != other {
				t.Fatalf("bit %d: the way of the key ends at depth %d, at the leaf of %x", i, depth, n.Leaf().Key)
			}
		}
	}
}

// P9.1: the greatest depth, for the first two keys there and for others beside the way to them.
func TestPutAt256Levels(t *testing.T) {
	for _, n := range plain.Bits() {
		h := plain.Hasher(n)
		for _, k := range plain.Keys() {
			m := plain.OfKeys("one key", k)
			for _, other := range []api.Key{plain.Flipped(k, 255), plain.Flipped(k, 0), plain.Flipped(k, 0, 255), plain.Flipped(k, 254), plain.Flipped(k, 254, 255), plain.Flipped(k, 1)} {
				e := api.Entry{Key: other, Value: []byte("deep")}
				checkPut(t, h, m, e)
				m = m.Put(e)
			}
			checkPut(t, h, m, api.Entry{Key: k, Value: []byte("again")})
			checkPut(t, h, plain.OfKeys("beside", plain.Neighbours(k)...), api.Entry{Key: plain.Flipped(k, 3, 255), Value: []byte("deep")})
		}
	}
}

// P9.1: values without bytes are values, and long ones are kept as a whole.
func TestPutOfValues(t *testing.T) {
	h := plain.Hasher(256)
	m := plain.OfKeys("0 and 128", api.Key{}, api.Key{128})
	for _, v := range [][]byte{nil, {}, {0}, {3}, bytes.Repeat([]byte{7}, api.MaxValue), make([]byte, api.MaxValue+1)} {
		for _, k := range []api.Key{{}, {1}, {128}, {255}} {
			checkPut(t, h, m, api.Entry{Key: k, Value: v})
		}
	}
	a := Put(h, m.Tree(h), api.Entry{Key: api.Key{1}, Value: nil})
	checkTree(t, "a value without bytes", h, Put(h, m.Tree(h), api.Entry{Key: api.Key{1}, Value: []byte{}}), a)
}

// P9.1: a value may be changed after the call, and what is behind its length is neither read nor written.
func TestPutCopiesTheValue(t *testing.T) {
	h := plain.Hasher(256)
	for _, m := range []plain.Map{plain.OfKeys("no keys"), plain.OfKeys("1", api.Key{1}), plain.OfKeys("0 and 128", api.Key{}, api.Key{128})} {
		for _, call := range []struct {
			name string
			put  func(n *node.Node, e api.Entry) *node.Node
		}{
			{"Put", func(n *node.Node, e api.Entry) *node.Node { return Put(h, n, e) }},
			{"At", func(n *node.Node, e api.Entry) *node.Node { return At(h, n, e, 0) }},
			{"All", func(n *node.Node, e api.Entry) *node.Node { return All(h, n, []api.Entry{e}) }},
		} {
			whole := []byte("the value and more")
			e := api.Entry{Key: api.Key{1}, Value: whole[:9]}
			got := call.put(m.Tree(h), e)
			if string(whole) != "the value and more" || e.Key != (api.Key{1}) {
				t.Errorf("%s, %s: the argument is %q now", m.Name, call.name, whole)
			}
			clear(whole)
			want := m.Put(api.Entry{Key: api.Key{1}, Value: []byte("the value")})
			checkTree(t, m.Name+", "+call.name, h, got, want.Tree(h))
		}
	}
}

// P9.1, P9.4 and P2: all trees of a history are as they were.
func TestOldTreesAreNotChanged(t *testing.T) {
	h := plain.Hasher(256)
	m := plain.OfKeys("")
	var trees, want []*node.Node
	tree := m.Tree(h)
	for i, k := range append(plain.Scattered(9, 12), plain.Neighbours(plain.Filled(0xaa))[:12]...) {
		for _, x := range []api.Entry{{Key: k, Value: []byte{byte(i)}}, {Key: plain.Flipped(k, 255), Value: []byte{byte(i)}}, {Key: k, Value: []byte("again")}} {
			trees, want = append(trees, tree), append(want, m.Tree(h))
			All(h, tree, []api.Entry{{Key: k}, {Key: plain.Flipped(k, 0)}})
			At(h, tree, api.Entry{Key: plain.Flipped(k, 100)}, 0)
			tree, m = Put(h, tree, x), m.Put(x)
		}
	}
	checkTree(t, "the last tree", h, tree, m.Tree(h))
	for i := range trees {
		checkTree(t, fmt.Sprint("tree ", i), h, trees[i], want[i])
	}
}

// members are the members of a map with the first bits of a key.
func members(m plain.Map, k api.Key, depth int) []plain.Member { return m.With(plain.Text(k)[:depth]) }

// checkAt checks At for a key in the subtree at a depth of a tree, with the keys that have its first bits.
func checkAt(t *testing.T, h *digest.Hasher, m plain.Map, e api.Entry, depth int) {
	t.Helper()
	name := fmt.Sprintf("%s, At of %x, depth %d", m.Name, e.Key, depth)
	n := plain.Subtree(h, members(m, e.Key, depth), depth)
	checkTree(t, name, h, At(h, n, e, depth), plain.Subtree(h, members(m.Put(e), e.Key, depth), depth))
}

// P9.2: the subtrees at depths near the first one, the end of the way, and the last one.
func TestAtDepths(t *testing.T) {
	for _, n := range []int{256, 0, 12} {
		h := plain.Hasher(n)
		for i, m := range plain.Maps() {
			if n != 256 && i >= 10 {
				break
			}
			for _, k := range m.Queries()[7:] {
				e, end := api.Entry{Key: k, Value: []byte("at")}, m.Depth(k)
				for _, depth := range []int{1, end - 1, end, end + 1, 255} {
					if depth >= 0 && depth <= api.Depth {
						checkAt(t, h, m, e, depth)
					}
				}
			}
		}
	}
}

// P9.2: every depth, with an empty subtree, a leaf with this key or with another one, and inner nodes.
func TestAtEachDepth(t *testing.T) {
	h := plain.Hasher(256)
	for _, k := range plain.Keys()[5:] {
		e := api.Entry{Key: k, Value: []byte("at")}
		for _, m := range plain.Around(k) {
			for depth := range 257 {
				checkAt(t, h, m, e, depth)
			}
		}
	}
}

// P9.2: at depth 256, the result is the leaf of the key.
func TestAtDepth256(t *testing.T) {
	for _, n := range plain.Bits() {
		h := plain.Hasher(n)
		for _, k := range plain.Keys() {
			e := api.Entry{Key: k, Value: []byte("new")}
			want := node.NewLeaf(h, e)
			checkTree(t, "the empty subtree", h, At(h, nil, e, 256), want)
			for _, v := range [][]byte{nil, []byte("new"), []byte("old")} {
				old := node.NewLeaf(h, api.Entry{Key: k, Value: v})
				checkTree(t, fmt.Sprintf("the leaf with the value %q", v), h, At(h, old, e, 256), want)
				if !bytes.Equal(old.Entry().Value, v) {
					t.Errorf("the leaf before has the value %q", old.Entry().Value)
				}
			}
		}
	}
}

// P9.2: the subtree of the way of a key in a tree is replaced by the result of At, and yields the tree after Put.
func TestAtIsAPartOfPut(t *testing.T) {
	h := plain.Hasher(256)
	for _, m := range plain.Large() {
		tree := m.Tree(h)
		for _, k := range m.Queries()[6:16] {
			e := api.Entry{Key: k, Value: []byte("part")}
			whole := Put(h, tree, e)
			for depth, n := range find.Way(tree, k) {
				name := fmt.Sprintf("%s, %x at depth %d", m.Name, k, depth)
				checkTree(t, name, h, At(h, n, e, depth), find.Way(whole, k)[depth])
			}
		}
	}
}

// checkPair checks Pair of the leaves of two keys in either order.
func checkPair(t *testing.T, h *digest.Hasher, x, y api.Key, depth int) {
	t.Helper()
	m := plain.OfKeys("two keys", x, y)
	a, b := node.NewLeaf(h, m.Members[0].Entry), node.NewLeaf(h, m.Members[1].Entry)
	want := plain.Subtree(h, m.Members, depth)
	for i, got := range []*node.Node{Pair(h, a, b, depth), Pair(h, b, a, depth)} {
		name := fmt.Sprintf("Pair of %x and %x, depth %d, order %d", x, y, depth, i)
		checkTree(t, name, h, got, want)
	}
}

// P9.3: keys that differ in each bit, alone and with others behind it, at the depths around the first and the last possible one.
func TestPair(t *testing.T) {
	h := plain.Hasher(256)
	for _, k := range []api.Key{{}, plain.Filled(0x5a)} {
		for i := range 256 {
			for _, depth := range slices.Compact([]int{0, i / 2, i}) {
				checkPair(t, h, k, plain.Flipped(k, i), depth)
				checkPair(t, h, k, behind(k, i), depth)
			}
		}
	}
}

// behind is a key that differs from another one in a bit and in all bits behind it.
func behind(k api.Key, i int) api.Key {
	for ; i < 256; i++ {
		k = plain.Flipped(k, i)
	}
	return k
}

// P9.3: with digests that are alike.
func TestPairWithFewBits(t *testing.T) {
	for _, n := range []int{0, 1, 12, 255} {
		h := plain.Hasher(n)
		for _, k := range plain.Keys() {
			for _, i := range []int{0, 1, 100, 255} {
				checkPair(t, h, k, plain.Flipped(k, i), 0)
				checkPair(t, h, k, plain.Flipped(k, i), i)
			}
		}
	}
}

// P9.3: all depths down to the last one that the keys allow.
func TestPairAtEachDepth(t *testing.T) {
	h := plain.Hasher(256)
	for _, k := range plain.Keys()[1:3] {
		for _, i := range []int{0, 1, 7, 8, 100, 254, 255} {
			for depth := range i + 1 {
				checkPair(t, h, k, plain.Flipped(k, i), depth)
			}
		}
	}
}

// P9.3: the values of the leaves are kept, and the leaves are not changed.
func TestPairKeepsTheLeaves(t *testing.T) {
	h := plain.Hasher(256)
	for _, v := range [][]byte{nil, {3}, bytes.Repeat([]byte{7}, api.MaxValue)} {
		first, second := api.Entry{Key: api.Key{3}, Value: v}, api.Entry{Key: api.Key{2}, Value: []byte("second")}
		a, b := node.NewLeaf(h, first), node.NewLeaf(h, second)
		for depth := range 8 {
			got := plain.Leaves(Pair(h, a, b, depth))
			if len(got) != 2 || got[0].Key != second.Key || got[1].Key != first.Key || string(got[0].Value) != "second" || !bytes.Equal(got[1].Value, v) {
				t.Fatalf("depth %d: the leaves %v", depth, got)
			}
		}
		checkTree(t, "the first leaf", h, a, node.NewLeaf(h, first))
		checkTree(t, "the second leaf", h, b, node.NewLeaf(h, second))
	}
}

// checkAll checks All for a list, against the map after all entries and against the calls of Put one after the other.
func checkAll(t *testing.T, h *digest.Hasher, m plain.Map, l []api.Entry) {
	t.Helper()
	name := fmt.Sprintf("%s, All of %d entries", m.Name, len(l))
	tree, copied := m.Tree(h), slices.Clone(l)
	got, one := All(h, tree, l), tree
	for _, e := range l {
		m, one = m.Put(e), Put(h, one, e)
	}
	checkTree(t, name, h, got, m.Tree(h))
	checkTree(t, name+" and Put", h, got, one)
	same := func(a, b api.Entry) bool { return a.Key == b.Key && bytes.Equal(a.Value, b.Value) }
	if !slices.EqualFunc(l, copied, same) {
		t.Fatalf("%s: the list is another one", name)
	}
}

// P9.4: maps as a whole, to the tree without keys and to trees of other maps.
func TestAllOfMaps(t *testing.T) {
	for _, n := range []int{256, 0, 12} {
		h := plain.Hasher(n)
		for i, m := range plain.Maps() {
			if n != 256 && i >= 30 {
				break
			}
			checkAll(t, h, plain.OfKeys("no keys"), m.Mixed())
			checkAll(t, h, plain.OfKeys("0 and 51", api.Key{}, plain.Filled(0x33)), m.Mixed())
		}
	}
}

// P9.4: without entries, the tree remains as it is.
func TestAllWithoutEntries(t *testing.T) {
	h := plain.Hasher(256)
	for _, m := range plain.Maps() {
		for _, l := range [][]api.Entry{nil, {}, make([]api.Entry, 0, 3)} {
			checkAll(t, h, m, l)
		}
	}
	if All(h, nil, nil) != nil {
		t.Error("All of no entries to no tree is not empty")
	}
}

// P9.4: of several entries with the same key, the last one counts.
func TestAllOfTheSameKeyTwice(t *testing.T) {
	h := plain.Hasher(256)
	entry := func(first byte, value string) api.Entry { return api.Entry{Key: api.Key{first}, Value: []byte(value)} }
	for _, m := range []plain.Map{plain.OfKeys("no keys"), plain.OfKeys("1", api.Key{1}), plain.OfKeys("0 to 2", api.Key{}, api.Key{1}, api.Key{2})} {
		for _, l := range [][]api.Entry{
			{entry(1, "old"), entry(1, "new")},
			{entry(1, "same"), entry(1, "same")},
			{entry(1, "old"), entry(0, "other"), entry(1, "")},
			{entry(1, ""), entry(3, "other"), entry(1, "new"), entry(3, "last"), entry(1, "last")},
		} {
			checkAll(t, h, m, l)
			v, ok := find.Get(All(h, m.Tree(h), l), api.Key{1})
			// The last entry of each list has this key.
			if last := l[len(l)-1].Value; !ok || !bytes.Equal(v, last) {
				t.Errorf("%s: the value is %q, %v, want %q", m.Name, v, ok, last)
			}
		}
	}
}

// P9.5: all orders of a few keys, which lie beside and above each other.
func TestOrderOfFewEntries(t *testing.T) {
	for _, n := range plain.Bits() {
		h := plain.Hasher(n)
		for _, m := range plain.Fives() {
			want, count := m.Tree(h), 0
			plain.Orders(m.Mixed(), func(l []api.Entry) {
				checkTree(t, fmt.Sprint(m.Name, ", order ", count), h, All(h, nil, l), want)
				count++
			})
			if count != 120 {
				t.Fatalf("%d orders", count)
			}
		}
	}
}

// P9.5: ascending, descending and mixed orders of many keys.
func TestOrderOfManyEntries(t *testing.T) {
	h := plain.Hasher(256)
	for _, m := range plain.Large() {
		want, l := m.Tree(h), m.Mixed()
		checkTree(t, m.Name+", mixed", h, All(h, nil, l), want)
		slices.Reverse(l)
		checkTree(t, m.Name+", mixed and reversed", h, All(h, nil, l), want)
		slices.SortFunc(l, func(a, b api.Entry) int { return bytes.Compare(a.Key[:], b.Key[:]) })
		checkTree(t, m.Name+", ascending", h, All(h, nil, l), want)
		slices.Reverse(l)
		checkTree(t, m.Name+", descending", h, All(h, nil, l), want)
	}
}

// P9.5: an entry that is in the map does not change the digest, by Put, At or All.
func TestPutOfTheSameEntryAgain(t *testing.T) {
	for _, n := range []int{256, 12, 0} {
		h := plain.Hasher(n)
		for _, m := range plain.Large() {
			tree := m.Tree(h)
			for _, x := range m.Members[:3] {
				checkTree(t, m.Name+", Put again", h, Put(h, tree, x.Entry), tree)
				checkTree(t, m.Name+", At again", h, At(h, tree, x.Entry, 0), tree)
			}
			if len(m.Members) <= 300 {
				checkTree(t, m.Name+", all again", h, All(h, tree, m.Mixed()), tree)
			}
		}
	}
}

// P9.5 and P3: another value has another digest, and the first value again the first digest.
func TestDigestsOfOtherValues(t *testing.T) {
	h := plain.Hasher(256)
	for _, m := range plain.Large() {
		tree := m.Tree(h)
		for _, x := range m.Members[:3] {
			other := Put(h, tree, api.Entry{Key: x.Entry.Key, Value: []byte("other")})
			if node.Digest(h, other) == node.Digest(h, tree) {
				t.Fatalf("%s: the same digest with another value", m.Name)
			}
			checkTree(t, m.Name+", the first value", h, Put(h, other, x.Entry), tree)
		}
	}
}

// P1: also with numbers that the chapter does not specify, the functions return.
func TestNumbersBeyondTheDepths(t *testing.T) {
	h := plain.Hasher(256)
	for _, m := range []plain.Map{plain.OfKeys("no keys"), plain.OfKeys("1", api.Key{1}), plain.OfKeys("1 and 2", api.Key{1}, api.Key{2}), plain.OfKeys("many", plain.Scattered(1, 9)...)} {
		tree := m.Tree(h)
		for _, depth := range plain.Numbers() {
			At(h, tree, api.Entry{Key: api.Key{1}}, depth)
			Pair(h, tree, node.NewLeaf(h, api.Entry{Key: api.Key{1}}), depth)
			Pair(h, nil, tree, depth)
		}
		for _, depth := range []int{math.MinInt, -256, -1} {
			a, b := node.NewLeaf(h, api.Entry{Key: api.Key{1}}), node.NewLeaf(h, api.Entry{Key: api.Key{2}})
			checkTree(t, "there are no bits before the first one", h, Pair(h, a, b, depth), Pair(h, a, b, 0))
		}
		checkTree(t, m.Name, h, tree, m.Tree(h))
	}
}

// Rule 6 of the document: the functions may be called concurrently, with a hasher for each goroutine and the same tree.
func TestConcurrentCalls(t *testing.T) {
	h := plain.Hasher(256)
	m := plain.Large()[3]
	tree, l := m.Tree(h), plain.OfKeys("other keys", plain.Scattered(5, 20)...).Mixed()
	want := All(h, tree, l)
	var wait sync.WaitGroup
	for range 8 {
		own := h.Fork()
		wait.Go(func() {
			if plain.Difference(own, All(own, tree, l), want) != "" || plain.Difference(own, Put(own, tree, l[0]), At(own, tree, l[0], 0)) != "" {
				t.Error("another tree")
			}
		})
	}
	wait.Wait()
}

// The example of chapter 9, and the second one of the document, as far as it tells of trees.
func TestExamples(t *testing.T) {
	h := plain.Hasher(256)
	one := Put(h, nil, api.Entry{Key: api.Key{}})
	if one.Kind() != api.Full || one.Leaf().Key != (api.Key{}) {
		t.Errorf("the tree of one key has the kind %d", one.Kind())
	}
	n := Put(h, one, api.Entry{Key: api.Key{64}})
	left := n.Left()
	if n.Kind() != api.Inner || n.Right() != nil || left.Kind() != api.Inner {
		t.Fatalf("the tree has the kind %d, with subtrees of the kinds %d and %d", n.Kind(), left.Kind(), n.Right().Kind())
	}
	if left.Left().Kind() != api.Full || left.Left().Leaf().Key != (api.Key{}) || left.Right().Kind() != api.Full || left.Right().Leaf().Key != (api.Key{64}) {
		t.Errorf("the leaves are %x and %x", left.Left().Leaf(), left.Right().Leaf())
	}
}
