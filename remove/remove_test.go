package remove

import (
	"fmt"
	"math"
	"slices"
	"sync"
	"testing"

	"sparsetree/api"
	"sparsetree/digest"
	"sparsetree/find"
	"sparsetree/internal/plain"
	"sparsetree/node"
	"sparsetree/put"
)

// checkTree checks that a tree, or a subtree, is the same one as another.
func checkTree(t *testing.T, name string, h *digest.Hasher, got, want *node.Node) {
	t.Helper()
	if d := plain.Difference(h, got, want); d != "" {
		t.Fatalf("%s: %s", name, d)
	}
}

// checkSame checks that a call, which found no key, returned the very subtree that was given, and computed no digest.
func checkSame(t *testing.T, name string, got, n *node.Node, digests int) {
	t.Helper()
	if got != n || digests != 0 {
		t.Fatalf("%s: the same subtree: %v, and %d digests", name, got == n, digests)
	}
}

// checkAt checks At for a key in the subtree n at a depth, which has all keys of the map with the first bits of the key.
func checkAt(t *testing.T, h *digest.Hasher, m plain.Map, n *node.Node, k api.Key, depth int) {
	t.Helper()
	name := fmt.Sprintf("%s, %x, depth %d", m.Name, k, depth)
	rest, had := m.Remove(k)
	calls := h.Calls()
	got, found := At(h, n, k, depth)
	calls = h.Calls() - calls
	if found != had {
		t.Fatalf("%s: found %v", name, found)
	}
	if !had {
		checkSame(t, name, got, n, calls)
		return
	}
	checkTree(t, name, h, got, plain.Subtree(h, rest.With(plain.Text(k)[:depth]), depth))
}

// checkRemove checks Remove and All of a single key.
func checkRemove(t *testing.T, h *digest.Hasher, m plain.Map, tree *node.Node, k api.Key) {
	t.Helper()
	name := fmt.Sprintf("%s, Remove of %x", m.Name, k)
	checkAt(t, h, m, tree, k, 0)
	_, had := m.Remove(k)
	want, _ := At(h, tree, k, 0)
	calls := h.Calls()
	got, found := Remove(h, tree, k)
	all, count := All(h, tree, []api.Key{k})
	calls = h.Calls() - calls
	if found != had || count > 1 || (count == 1) != had {
		t.Fatalf("%s: found %v, and %d by All", name, found, count)
	}
	if !had {
		checkSame(t, name, got, tree, calls)
		checkSame(t, name+", All", all, tree, calls)
	}
	checkTree(t, name, h, got, want)
	checkTree(t, name+", All", h, all, want)
}

// P10.1: keys that are in the map, among them the first and the last one, and such that are not.
func TestRemoveOfKeys(t *testing.T) {
	h := plain.Hasher(256)
	for _, m := range plain.Maps() {
		tree, l := m.Tree(h), m.Queries()[6:]
		for i, x := range m.Members {
			if i < 2 || i >= len(m.Members)-2 {
				l = append(l, x.Entry.Key)
			}
		}
		for _, k := range l {
			checkRemove(t, h, m, tree, k)
		}
	}
}

// P10.1: for each number of bits, trees have the same keys and values.
func TestRemoveWithFewBits(t *testing.T) {
	for _, n := range []int{0, 1, 12, 255} {
		h := plain.Hasher(n)
		for _, m := range plain.Maps()[:8] {
			tree := m.Tree(h)
			for _, k := range m.Queries() {
				checkRemove(t, h, m, tree, k)
			}
		}
	}
}

// P10.1: the tree without keys has no key, and remains empty.
func TestRemoveFromTheTreeWithoutKeys(t *testing.T) {
	for _, n := range plain.Bits() {
		h := plain.Hasher(n)
		for _, k := range plain.Keys() {
			if got, found := Remove(h, nil, k); got != nil || found || h.Calls() != 0 {
				t.Fatalf("%d bits, key %x: kind %d, found %v, %d digests", n, k, got.Kind(), found, h.Calls())
			}
		}
	}
}

// P10.1: the tree of one key is empty without it, and the same one without any other key.
func TestRemoveFromTheTreeOfOneKey(t *testing.T) {
	for _, n := range plain.Bits() {
		h := plain.Hasher(n)
		for _, k := range plain.Keys() {
			tree := node.NewLeaf(h, api.Entry{Key: k, Value: []byte("only")})
			if got, found := Remove(h, tree, k); got != nil || !found {
				t.Fatalf("%d bits, key %x: kind %d, found %v", n, k, got.Kind(), found)
			}
			calls := h.Calls()
			for i := range 256 {
				got, found := Remove(h, tree, plain.Flipped(k, i))
				if found {
					t.Fatalf("%d bits, key %x: a key that differs in bit %d was found", n, k, i)
				}
				checkSame(t, "one key", got, tree, h.Calls()-calls)
			}
		}
	}
}

// P10.1: a key that is not in the map leaves the tree as it is, wherever its way leads.
func TestRemoveOfAKeyThatIsNotInTheMap(t *testing.T) {
	m := plain.OfKeys("0, 1, 64 and 255", api.Key{}, api.Key{1}, api.Key{64}, api.Key{255})
	for _, n := range plain.Bits() {
		h := plain.Hasher(n)
		tree := m.Tree(h)
		for _, c := range []struct {
			name  string
			key   api.Key
			kind  int
			depth int
		}{
			{"beside a leaf at depth 1", api.Key{128}, api.Full, 1},
			{"beside a leaf at depth 2", api.Key{65}, api.Full, 2},
			{"beside a leaf at depth 8", api.Key{31: 1}, api.Full, 8},
			{"beside the other leaf at depth 8", api.Key{1, 255}, api.Full, 8},
			{"an empty subtree at depth 3", api.Key{32}, api.Empty, 3},
			{"an empty subtree at depth 7", api.Key{2}, api.Empty, 7},
		} {
			end, depth := find.Locate(tree, c.key)
			if end.Kind() != c.kind || depth != c.depth {
				t.Fatalf("%s: the way ends at kind %d, depth %d", c.name, end.Kind(), depth)
			}
			calls := h.Calls()
			got, found := Remove(h, tree, c.key)
			if found {
				t.Errorf("%s: found", c.name)
			}
			checkSame(t, c.name, got, tree, h.Calls()-calls)
			checkTree(t, c.name, h, tree, m.Tree(h))
		}
	}
}

// P10.1: the way through 256 inner nodes, which ends at no key, at another one, or at this one.
func TestRemoveAt256Levels(t *testing.T) {
	for _, n := range plain.Bits() {
		h := plain.Hasher(n)
		for _, k := range plain.Keys() {
			m := plain.OfKeys("last bit", k, plain.Flipped(k, 255))
			tree := m.Tree(h)
			for _, i := range []int{0, 1, 100, 254} {
				checkRemove(t, h, m, tree, plain.Flipped(k, i))
				checkRemove(t, h, m, tree, plain.Flipped(k, i, 255))
			}
			checkRemove(t, h, m, tree, k)
			checkRemove(t, h, m, tree, plain.Flipped(k, 255))
		}
	}
}

// P10.1: of two keys that differ in one bit, from the first to the last, one remains, as the tree.
func TestRemoveOneOfTwoKeys(t *testing.T) {
	h := plain.Hasher(256)
	for _, k := range plain.Keys()[5:] {
		for i := range 256 {
			other := plain.Flipped(k, i)
			m := plain.OfKeys(fmt.Sprint("bit ", i), k, other)
			tree := m.Tree(h)
			for _, pair := range [][2]api.Key{{k, other}, {other, k}} {
				got, found := Remove(h, tree, pair[0])
				if !found || got.Kind() != api.Full || got.Leaf().Key != pair[1] {
					t.Fatalf("bit %d: found %v, kind %d, the key %x", i, found, got.Kind(), got.Leaf().Key)
				}
				rest, _ := m.Remove(pair[0])
				checkTree(t, m.Name, h, got, rest.Tree(h))
			}
		}
	}
}

// P10.1 and P10.5: a leaf moves up past empty subtrees, as far as to the first one beside its way that is not empty.
func TestALeafMovesUp(t *testing.T) {
	h := plain.Hasher(256)
	for _, k := range plain.Keys()[5:] {
		last := plain.Flipped(k, 255)
		for i := range 255 {
			m := plain.OfKeys(fmt.Sprint("bit ", i), k, last, plain.Flipped(k, i))
			got, found := Remove(h, m.Tree(h), last)
			if end, depth := find.Locate(got, k); !found || depth != i+1 || end.Leaf().Key != k {
				t.Fatalf("bit %d: found %v, the way of the key ends at depth %d", i, found, depth)
			}
			rest, _ := m.Remove(last)
			checkTree(t, m.Name, h, got, rest.Tree(h))
		}
	}
}

// P10.1: an inner node is not moved up, also where the subtree beside it becomes empty.
func TestAnInnerNodeStays(t *testing.T) {
	for _, n := range plain.Bits() {
		h := plain.Hasher(n)
		for i := range 255 {
			k := plain.Filled(0x33)
			beside, below := plain.Flipped(k, i), plain.Flipped(k, i+1)
			m := plain.OfKeys(fmt.Sprint("bit ", i), k, beside, below)
			got, found := Remove(h, m.Tree(h), beside)
			if way := find.Way(got, k); !found || len(way) != i+3 || way[i+1].Len() != 2 || find.Siblings(got, k)[i] != nil {
				t.Fatalf("bit %d: found %v, %d subtrees on the way", i, found, len(way))
			}
			rest, _ := m.Remove(beside)
			checkTree(t, m.Name, h, got, rest.Tree(h))
		}
	}
}

// P10.1 and P2: all trees of a history are as they were.
func TestOldTreesAreNotChanged(t *testing.T) {
	h := plain.Hasher(256)
	m := plain.OfKeys("", append(plain.Scattered(10, 12), plain.Neighbours(plain.Filled(0xaa))[:12]...)...)
	var trees, want []*node.Node
	tree := m.Tree(h)
	for len(m.Members) > 0 {
		l := m.Keys()
		k := l[len(l)/2]
		trees, want = append(trees, tree), append(want, m.Tree(h))
		All(h, tree, l)
		At(h, tree, l[0], 0)
		Prune(h, tree, func(x api.Key) bool { return x[31]%2 == 0 })
		tree, _ = Remove(h, tree, k)
		m, _ = m.Remove(k)
	}
	checkTree(t, "the last tree", h, tree, nil)
	for i := range trees {
		checkTree(t, fmt.Sprint("tree ", i), h, trees[i], want[i])
	}
}

// subtree is the subtree at a depth of all keys of a map with the first bits of a key.
func subtree(h *digest.Hasher, m plain.Map, k api.Key, depth int) *node.Node {
	return plain.Subtree(h, m.With(plain.Text(k)[:depth]), depth)
}

// P10.2: the subtrees at depths near the first one, the end of the way, and the last one.
func TestAtDepths(t *testing.T) {
	for _, n := range []int{256, 0, 12} {
		h := plain.Hasher(n)
		for i, m := range plain.Maps() {
			if n != 256 && i >= 10 {
				break
			}
			for _, k := range m.Queries()[7:] {
				end := m.Depth(k)
				for _, depth := range []int{1, end - 1, end, end + 1, 255, 256} {
					if depth >= 0 && depth <= api.Depth {
						checkAt(t, h, m, subtree(h, m, k, depth), k, depth)
					}
				}
			}
		}
	}
}

// P10.2: every depth, with an empty subtree, a leaf with this key or with another one, and inner nodes.
func TestAtEachDepth(t *testing.T) {
	h := plain.Hasher(256)
	for _, k := range plain.Keys()[5:] {
		for _, m := range plain.Around(k) {
			for depth := range 257 {
				checkAt(t, h, m, subtree(h, m, k, depth), k, depth)
			}
		}
	}
}

// P10.2: at the last two depths, a subtree is empty, a leaf, or two leaves whose keys differ in the last bit.
func TestAtTheLastDepths(t *testing.T) {
	for _, n := range plain.Bits() {
		h := plain.Hasher(n)
		for _, k := range plain.Keys() {
			other := plain.Flipped(k, 255)
			leaf, beside := node.NewLeaf(h, api.Entry{Key: k, Value: []byte("this")}), node.NewLeaf(h, api.Entry{Key: other})
			both := put.Pair(h, leaf, beside, 255)
			for _, c := range []struct {
				name    string
				n, want *node.Node
				key     api.Key
				depth   int
			}{
				{"the empty subtree", nil, nil, k, 256},
				{"the leaf with this key", leaf, nil, k, 256},
				{"the leaf without this key", leaf, leaf, other, 256},
				{"the empty subtree above", nil, nil, k, 255},
				{"the leaf with this key above", leaf, nil, k, 255},
				{"the leaf without this key above", leaf, leaf, other, 255},
				{"both leaves, without this one", both, beside, k, 255},
				{"both leaves, without the other one", both, leaf, other, 255},
			} {
				calls := h.Calls()
				got, found := At(h, c.n, c.key, c.depth)
				if found != (c.n != c.want) {
					t.Errorf("%s: found %v", c.name, found)
				}
				if !found {
					checkSame(t, c.name, got, c.n, h.Calls()-calls)
				}
				checkTree(t, c.name, h, got, c.want)
			}
		}
	}
}

// P10.2: At returns the subtree on the way of the key in the tree after Remove, as far as this way goes.
func TestAtIsAPartOfRemove(t *testing.T) {
	h := plain.Hasher(256)
	for _, m := range plain.Large() {
		tree := m.Tree(h)
		for _, k := range append(m.Keys()[:3], m.Queries()[6:12]...) {
			whole, had := Remove(h, tree, k)
			after := find.Way(whole, k)
			for depth, n := range find.Way(tree, k) {
				name := fmt.Sprintf("%s, %x at depth %d", m.Name, k, depth)
				got, found := At(h, n, k, depth)
				if found != had {
					t.Fatalf("%s: found %v", name, found)
				}
				if depth < len(after)-1 {
					checkTree(t, name, h, got, after[depth])
				}
			}
		}
	}
}

// checkAll checks All for a list, against the map without its keys and against the calls of Remove one after the other.
func checkAll(t *testing.T, h *digest.Hasher, m plain.Map, l []api.Key) {
	t.Helper()
	name := fmt.Sprintf("%s, All of %d keys", m.Name, len(l))
	tree, copied := m.Tree(h), slices.Clone(l)
	calls := h.Calls()
	got, count := All(h, tree, l)
	calls = h.Calls() - calls
	one, want := tree, 0
	for _, k := range l {
		rest, found := Remove(h, one, k)
		less, had := m.Remove(k)
		if found != had {
			t.Fatalf("%s: Remove of %x found %v", name, k, found)
		}
		if had {
			want++
		}
		m, one = less, rest
	}
	if count != want {
		t.Fatalf("%s: %d found, want %d", name, count, want)
	}
	if want == 0 {
		checkSame(t, name, got, tree, calls)
	}
	checkTree(t, name, h, got, m.Tree(h))
	checkTree(t, name+" and Remove", h, got, one)
	if !slices.Equal(l, copied) {
		t.Fatalf("%s: the list is another one", name)
	}
}

// mixed are the keys of a map in another order than the ascending one.
func mixed(m plain.Map) []api.Key {
	var l []api.Key
	for _, e := range m.Mixed() {
		l = append(l, e.Key)
	}
	return l
}

// P10.3: all keys of maps, some of them, and such that are not in them.
func TestAllOfMaps(t *testing.T) {
	for _, n := range []int{256, 0, 12} {
		h := plain.Hasher(n)
		for i, m := range plain.Maps() {
			if n != 256 && i >= 20 {
				break
			}
			l := mixed(m)
			checkAll(t, h, m, l)
			checkAll(t, h, m, l[:len(l)/2])
			checkAll(t, h, m, append(m.Queries(), l[len(l)/2:]...))
		}
	}
}

// P10.3: without keys to remove, the tree remains as it is.
func TestAllWithoutKeys(t *testing.T) {
	h := plain.Hasher(256)
	for _, m := range plain.Maps() {
		for _, l := range [][]api.Key{nil, {}, make([]api.Key, 0, 3)} {
			checkAll(t, h, m, l)
		}
	}
	if n, count := All(h, nil, nil); n != nil || count != 0 {
		t.Errorf("All of no keys from no tree: kind %d, %d found", n.Kind(), count)
	}
}

// P10.3: a key is found once, however often and wherever it is in the list, and a key that is not in the map is not found.
func TestAllOfTheSameKeyTwice(t *testing.T) {
	a, b, c, other := api.Key{1}, api.Key{2}, api.Key{128}, api.Key{3}
	m := plain.OfKeys("1, 2 and 128", a, b, c)
	for _, n := range plain.Bits() {
		h := plain.Hasher(n)
		for _, x := range []struct {
			list  []api.Key
			count int
		}{
			{[]api.Key{a, a}, 1},
			{[]api.Key{a, b, a}, 2},
			{[]api.Key{a, a, b, b, c, c}, 3},
			{[]api.Key{c, b, a, a, b, c}, 3},
			{[]api.Key{other}, 0},
			{[]api.Key{other, other}, 0},
			{[]api.Key{other, a, other, a}, 1},
			{[]api.Key{a, b, c, other}, 3},
		} {
			checkAll(t, h, m, x.list)
			if _, count := All(h, m.Tree(h), x.list); count != x.count {
				t.Errorf("%d keys: %d found, want %d", len(x.list), count, x.count)
			}
		}
	}
}

// checkPrune checks Prune for the keys that some function keeps, with the calls of it.
func checkPrune(t *testing.T, h *digest.Hasher, m plain.Map, what string, keep func(api.Key) bool) {
	t.Helper()
	name := m.Name + ", Prune, keeping " + what
	var asked []api.Key
	got := Prune(h, m.Tree(h), func(k api.Key) bool {
		asked = append(asked, k)
		return keep(k)
	})
	if !slices.Equal(asked, m.Keys()) {
		t.Fatalf("%s: asked for the keys %x", name, asked)
	}
	var rest []plain.Member
	for _, x := range m.Members {
		if keep(x.Entry.Key) {
			rest = append(rest, x)
		}
	}
	checkTree(t, name, h, got, plain.Subtree(h, rest, 0))
}

// P10.4: all keys, none, and those with or without some bit.
func TestPruneOfMaps(t *testing.T) {
	for _, n := range []int{256, 0, 12} {
		h := plain.Hasher(n)
		for i, m := range plain.Maps() {
			if n != 256 && i >= 30 {
				break
			}
			checkPrune(t, h, m, "all", func(api.Key) bool { return true })
			checkPrune(t, h, m, "none", func(api.Key) bool { return false })
			checkPrune(t, h, m, "the first half", func(k api.Key) bool { return k[0] < 128 })
			checkPrune(t, h, m, "the last half", func(k api.Key) bool { return k[0] >= 128 })
			checkPrune(t, h, m, "even ones", func(k api.Key) bool { return k[31]%2 == 0 })
			checkPrune(t, h, m, "some bytes", func(k api.Key) bool { return k[0]%3 == k[31]%3 })
		}
	}
}

// P10.4: one key is kept, as the tree, or one is left out, as Remove would.
func TestPruneOfOneKey(t *testing.T) {
	h := plain.Hasher(256)
	for _, m := range plain.Maps() {
		if len(m.Members) > 20 {
			continue
		}
		tree := m.Tree(h)
		for _, k := range m.Keys() {
			checkPrune(t, h, m, "one", func(x api.Key) bool { return x == k })
			checkPrune(t, h, m, "all but one", func(x api.Key) bool { return x != k })
			rest, _ := Remove(h, tree, k)
			checkTree(t, m.Name, h, Prune(h, tree, func(x api.Key) bool { return x != k }), rest)
			one := Prune(h, tree, func(x api.Key) bool { return x == k })
			if one.Kind() != api.Full || one.Leaf().Key != k {
				t.Fatalf("%s: a single key yields kind %d", m.Name, one.Kind())
			}
		}
	}
}

// P10.4: in the tree without keys, there is nothing to ask for.
func TestPruneOfTheTreeWithoutKeys(t *testing.T) {
	h := plain.Hasher(256)
	got := Prune(h, nil, func(k api.Key) bool {
		t.Errorf("asked for the key %x", k)
		return true
	})
	if got != nil {
		t.Errorf("kind %d", got.Kind())
	}
}

// P10.4: a function may also count: what it returns is taken from the one call for each key.
func TestPruneTakesTheOneAnswer(t *testing.T) {
	h := plain.Hasher(256)
	for _, m := range plain.Large() {
		var rest []plain.Member
		for i := 1; i < len(m.Members); i += 2 {
			rest = append(rest, m.Members[i])
		}
		calls := 0
		got := Prune(h, m.Tree(h), func(api.Key) bool {
			calls++
			return calls%2 == 0
		})
		checkTree(t, m.Name, h, got, plain.Subtree(h, rest, 0))
	}
}

// P1 and P10.4: a function that panics for a key does not return true for it.
func TestPruneWithAPanic(t *testing.T) {
	h := plain.Hasher(256)
	m := plain.OfKeys("0, 1, 64 and 255", api.Key{}, api.Key{1}, api.Key{64}, api.Key{255})
	var asked []api.Key
	got := Prune(h, m.Tree(h), func(k api.Key) bool {
		asked = append(asked, k)
		if k[0] == 64 {
			panic("64")
		}
		return true
	})
	if !slices.Equal(asked, m.Keys()) {
		t.Errorf("asked for the keys %x", asked)
	}
	want, _ := m.Remove(api.Key{64})
	checkTree(t, m.Name, h, got, want.Tree(h))
}

// P10.5: keys that were put to a tree without them are removed again, which restores the tree.
func TestRemoveInvertsPut(t *testing.T) {
	for _, n := range []int{256, 12, 0} {
		h := plain.Hasher(n)
		for i, m := range plain.Maps() {
			if n != 256 && i >= 20 {
				break
			}
			tree := m.Tree(h)
			for _, k := range m.Queries()[6:] {
				if _, had := m.Remove(k); had {
					continue
				}
				got, found := Remove(h, put.Put(h, tree, api.Entry{Key: k, Value: []byte("new")}), k)
				if !found || node.Digest(h, got) != node.Digest(h, tree) {
					t.Fatalf("%s: %x found %v, the same digest: %v", m.Name, k, found, node.Digest(h, got) == node.Digest(h, tree))
				}
				checkTree(t, m.Name, h, got, tree)
			}
		}
	}
}

// P10.5: Remove and All without many keys, which were put in one order, are removed in others.
func TestRemoveInvertsPutOfManyKeys(t *testing.T) {
	h := plain.Hasher(256)
	for _, m := range plain.Large() {
		tree, whole := m.Tree(h), m.Tree(h)
		var l []api.Key
		for i, k := range plain.Scattered(77, 20) {
			whole = put.Put(h, whole, api.Entry{Key: k, Value: []byte{byte(i)}})
			l = append(l, k)
		}
		for range 2 {
			got, count := All(h, whole, l)
			if count != len(l) {
				t.Fatalf("%s: %d found", m.Name, count)
			}
			checkTree(t, m.Name, h, got, tree)
			slices.Reverse(l)
		}
	}
}

// P10.5 and P3: after any order of removals, the tree is that of the map that is left.
func TestOrderOfFewKeys(t *testing.T) {
	for _, n := range plain.Bits() {
		h := plain.Hasher(n)
		for _, m := range plain.Fives() {
			whole, orders := m.Tree(h), 0
			plain.Orders(m.Keys(), func(l []api.Key) {
				orders++
				tree, rest := whole, m
				for _, k := range l {
					tree, _ = Remove(h, tree, k)
					rest, _ = rest.Remove(k)
					if node.Digest(h, tree) != node.Digest(h, rest.Tree(h)) {
						t.Fatalf("%s, order %d: another digest without %x", m.Name, orders, k)
					}
				}
				if tree != nil {
					t.Fatalf("%s, order %d: kind %d without all keys", m.Name, orders, tree.Kind())
				}
			})
			if orders != 120 {
				t.Fatalf("%d orders", orders)
			}
		}
	}
}

// P10.5: from the first key on and from the last one, every tree on the way to the empty one is that of its map.
func TestRemoveOfAllKeysOneByOne(t *testing.T) {
	h := plain.Hasher(256)
	for _, m := range plain.Large() {
		ascending := m.Keys()
		descending := slices.Clone(ascending)
		slices.Reverse(descending)
		for _, l := range [][]api.Key{ascending, descending} {
			tree, rest := m.Tree(h), m
			for i, k := range l {
				tree, _ = Remove(h, tree, k)
				rest, _ = rest.Remove(k)
				if i%50 == 0 || len(l)-i < 5 {
					checkTree(t, fmt.Sprint(m.Name, " without ", i+1), h, tree, rest.Tree(h))
				}
			}
		}
	}
}

// P1: also with numbers that the chapter does not specify, At returns, and without a function, Prune does.
func TestArgumentsBeyondTheChapter(t *testing.T) {
	h := plain.Hasher(256)
	for _, m := range []plain.Map{plain.OfKeys("no keys"), plain.OfKeys("1", api.Key{1}), plain.OfKeys("1 and 2", api.Key{1}, api.Key{2}), plain.OfKeys("many", plain.Scattered(1, 9)...)} {
		tree := m.Tree(h)
		for _, depth := range append(plain.Numbers(), math.MaxInt-3) {
			for _, k := range append(m.Keys(), api.Key{3}, plain.Filled(255)) {
				At(h, tree, k, depth)
			}
		}
		Prune(h, tree, nil)
		checkTree(t, m.Name, h, tree, m.Tree(h))
	}
}

// Rule 6 of the document: the functions may be called concurrently, with a hasher for each goroutine and the same tree.
func TestConcurrentCalls(t *testing.T) {
	h := plain.Hasher(256)
	m := plain.Large()[3]
	tree, l := m.Tree(h), m.Keys()
	half, _ := All(h, tree, l[:50])
	one, _ := Remove(h, tree, l[0])
	var wait sync.WaitGroup
	for range 8 {
		own := h.Fork()
		wait.Go(func() {
			all, count := All(own, tree, l[:50])
			first, found := Remove(own, tree, l[0])
			pruned := Prune(own, tree, func(k api.Key) bool { return k != l[0] })
			if count != 50 || !found || plain.Difference(own, all, half) != "" || plain.Difference(own, first, one) != "" || plain.Difference(own, pruned, one) != "" {
				t.Error("another tree")
			}
		})
	}
	wait.Wait()
}

// The example of chapter 10.
func TestExample(t *testing.T) {
	for _, n := range plain.Bits() {
		h := plain.Hasher(n)
		second := api.Entry{Key: api.Key{64}, Value: []byte("second")}
		tree := put.All(h, nil, []api.Entry{{Key: api.Key{}, Value: []byte("first")}, second})
		got, found := Remove(h, tree, api.Key{})
		if !found || got.Kind() != api.Full || got.Leaf().Key != second.Key {
			t.Errorf("found %v, kind %d, the key %x", found, got.Kind(), got.Leaf().Key)
		}
		checkTree(t, "the leaf of the second key", h, got, node.NewLeaf(h, second))
	}
}
