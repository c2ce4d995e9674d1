package multi

import (
	"bytes"
	"fmt"
	"slices"
	"strings"
	"testing"

	"sparsetree/api"
	"sparsetree/digest"
	"sparsetree/find"
	"sparsetree/internal/plain"
	"sparsetree/key"
	"sparsetree/node"
	"sparsetree/proof"
	"sparsetree/tree"
)

// describe returns the multiproof of a map that fits keys, as the chapter says it, from the list of the keys of the map.
func describe(bits int, m plain.Map, keys []api.Key) []api.Item {
	texts := make([]string, len(keys))
	for i, k := range keys {
		texts[i] = plain.Text(k)
	}
	return describeAt(nil, sumOf(bits), m.Members, texts, "")
}

// describeAt appends the items of the subtree at the end of a way, of members and for keys that begin with it.
func describeAt(items []api.Item, sum plain.Sum, l []plain.Member, keys []string, way string) []api.Item {
	switch {
	case len(l) == 0:
		return append(items, api.Item{Kind: 0})
	case len(keys) == 0:
		return append(items, api.Item{Kind: 3, Digest: sum.Subtree(l, len(way))})
	case len(l) == 1:
		return append(items, api.Item{Kind: 1, Leaf: sum.Leaf(l[0].Entry)})
	}
	items = append(items, api.Item{Kind: 2})
	for _, digit := range []string{"0", "1"} {
		var below []string
		for _, k := range keys {
			if strings.HasPrefix(k, way+digit) {
				below = append(below, k)
			}
		}
		items = describeAt(items, sum, plain.Begin(l, way+digit), below, way+digit)
	}
	return items
}

// keyLists returns lists of keys to prove: some of those of the map, and others.
func keyLists(m plain.Map) [][]api.Key {
	all, own := key.Sort(m.Queries()), m.Keys()
	lists := [][]api.Key{all, all[:len(all)/2], all[len(all)/2:], {all[0]}, {all[len(all)-1]}, {all[len(all)/3]}}
	for step := 2; step < 8; step += 5 {
		var some []api.Key
		for i := 1; i < len(all); i += step {
			some = append(some, all[i])
		}
		lists = append(lists, some)
	}
	if len(own) > 0 {
		lists = append(lists, own, own[:1], own[len(own)-1:], own[len(own)/2:], key.Sort(append(own, all...)))
	}
	for _, bit := range []int{0, 1} {
		side := slices.DeleteFunc(slices.Clone(all), func(k api.Key) bool { return int(k[0]>>7) == bit })
		if len(side) > 0 {
			lists = append(lists, side, side[:(len(side)+1)/2])
		}
	}
	return lists
}

// eachList calls a function with the tree of each map and with lists of keys, with digests of several numbers of bits.
func eachList(bits []int, call func(h *digest.Hasher, m plain.Map, n *node.Node, keys []api.Key)) {
	for _, b := range bits {
		h := plain.Hasher(b)
		for _, m := range plain.Maps() {
			n := m.Tree(h)
			for _, keys := range keyLists(m) {
				call(h, m, n, keys)
			}
		}
	}
}

// checkProve checks Prove for keys that Keys accepts. It returns the multiproof.
func checkProve(t *testing.T, h *digest.Hasher, m plain.Map, n *node.Node, keys []api.Key) []api.Item {
	t.Helper()
	got, errno := Prove(h, n, keys)
	if want := describe(h.Bits(), m, keys); errno != api.OK || !slices.Equal(got, want) {
		t.Fatalf("%d bits, %s: Prove for %d keys from %x on = %s, %v, want %s", h.Bits(), m.Name, len(keys), keys[0], text(got), errno, text(want))
	}
	return got
}

// P19.1
func TestKeys(t *testing.T) {
	for want, lists := range wrongKeys() {
		for _, l := range lists {
			if errno := Keys(l); errno != want || keysOf(l) != want {
				t.Errorf("%d keys: Keys = %v, want %v", len(l), errno, want)
			}
		}
	}
	for _, n := range []int{1, 2, 3, 100, 255, 256, 257, 65534, 65535} {
		if errno := Keys(many(n)); errno != api.OK {
			t.Errorf("%d keys: Keys = %v", n, errno)
		}
	}
	for _, k := range plain.Keys() {
		if errno := Keys([]api.Key{k}); errno != api.OK {
			t.Errorf("the key %x: Keys = %v", k, errno)
		}
	}
}

// P19.1: each order of few keys, equal ones among them.
func TestKeysOfEachOrder(t *testing.T) {
	some := []api.Key{{}, {31: 1}, {127, 255}, {128}, {128}}
	found := map[api.Errno]int{}
	for _, l := range subsets(some) {
		plain.Orders(l, func(l []api.Key) {
			want := keysOf(l)
			found[want]++
			if errno := Keys(l); errno != want {
				t.Fatalf("%x: Keys = %v, want %v", l, errno, want)
			}
		})
	}
	if len(found) != 4 {
		t.Errorf("errors %v", found)
	}
}

// P19.1: two keys that differ in one bit, from the first to the last one.
func TestKeysOfEachBit(t *testing.T) {
	a := plain.Filled(0x96)
	for i := range 256 {
		b := plain.Flipped(a, i)
		want, back := api.OK, api.ErrOrder
		if plain.Text(a)[i] == '1' {
			want, back = back, want
		}
		if Keys([]api.Key{a, b}) != want || Keys([]api.Key{b, a}) != back {
			t.Errorf("bit %d: Keys = %v, and in the other order %v", i, Keys([]api.Key{a, b}), Keys([]api.Key{b, a}))
		}
	}
}

// P19.2
func TestProveDescribesTheTree(t *testing.T) {
	kinds := map[int]int{}
	eachList([]int{12, 256}, func(h *digest.Hasher, m plain.Map, n *node.Node, keys []api.Key) {
		for _, x := range checkProve(t, h, m, n, keys) {
			kinds[x.Kind]++
		}
	})
	if len(kinds) != 4 {
		t.Errorf("items of the kinds %v", kinds)
	}
}

// P19.2: the map without keys, and the map of one key.
func TestProveOfOneItem(t *testing.T) {
	for _, bits := range plain.Bits() {
		h := plain.Hasher(bits)
		for _, k := range plain.Keys() {
			m := plain.OfKeys("one", k)
			for _, keys := range [][]api.Key{{k}, {plain.Flipped(k, 0)}, {plain.Flipped(k, 255)}, key.Sort(plain.Neighbours(k)), many(65535)} {
				if l, errno := Prove(h, nil, keys); errno != api.OK || !slices.Equal(l, []api.Item{{Kind: 0}}) {
					t.Errorf("%d bits: Prove of no keys = %s, %v", bits, text(l), errno)
				}
				want := []api.Item{{Kind: 1, Leaf: sumOf(bits).Leaf(m.Entries()[0])}}
				if l, errno := Prove(h, m.Tree(h), keys); errno != api.OK || !slices.Equal(l, want) {
					t.Errorf("%d bits: Prove of the key %x = %s, %v", bits, k, text(l), errno)
				}
			}
		}
	}
}

// P19.2: two keys that differ in one bit, from the first to the last one, with one of them, both, and keys that leave their ways.
func TestProveOfTwoKeys(t *testing.T) {
	h := plain.Hasher(256)
	a := plain.Filled(0x96)
	for i := range 256 {
		b := plain.Flipped(a, i)
		m := plain.OfKeys("two", a, b)
		n := m.Tree(h)
		for _, keys := range [][]api.Key{{a}, {b}, {a, b}, {a, plain.Flipped(a, i/2)}, {plain.Flipped(a, 255)}, {plain.Flipped(b, 0), plain.Flipped(a, 0)}, {plain.Flipped(a, min(255, i+1)), b}} {
			l := checkProve(t, h, m, n, key.Sort(keys))
			if len(l)%2 != 1 || len(l) > 2*i+3 {
				t.Fatalf("keys that differ in bit %d: Prove for %x = %s", i, keys, text(l))
			}
		}
	}
}

// P19.2: siblings at all depths of the longest way, and at the last one only.
func TestProveOfTheLongestWay(t *testing.T) {
	h := plain.Hasher(256)
	for _, k := range plain.Keys() {
		for i, keys := range [][]api.Key{plain.Neighbours(k), {k, plain.Flipped(k, 255)}, plain.Neighbours(k)[1:]} {
			m := plain.OfKeys("longest", keys...)
			n := m.Tree(h)
			// Without k, the key that differs from it in the last bit is alone at depth 255.
			l := checkProve(t, h, m, n, []api.Key{k})
			if want := []int{513, 513, 511}[i]; len(l) != want {
				t.Errorf("%d keys, Prove for %x = %s", len(keys), k, text(l))
			}
			checkProve(t, h, m, n, key.Sort(keys))
			checkProve(t, h, m, n, key.Sort([]api.Key{plain.Flipped(k, 255), k, plain.Flipped(k, 100)}))
		}
	}
}

// P19.2: the items for keys on one side and on both sides, at each end of a way, written out, in the map of the first bytes 0, 64 and 96.
func TestProveOfEachEnd(t *testing.T) {
	const bits = 12
	h, sum := plain.Hasher(bits), sumOf(bits)
	m := plain.OfKeys("0, 64, 96", api.Key{}, api.Key{64}, api.Key{96})
	n := m.Tree(h)
	leaf := func(i int) api.Item { return api.Item{Kind: 1, Leaf: sum.Leaf(m.Entries()[i])} }
	beside := func(depth, from, to int) api.Item {
		return api.Item{Kind: 3, Digest: sum.Subtree(m.Members[from:to], depth)}
	}
	for _, c := range []struct {
		first []byte
		want  []api.Item
	}{
		{[]byte{0}, []api.Item{anInner, anInner, leaf(0), beside(2, 1, 3), anEmpty}},
		{[]byte{1, 63}, []api.Item{anInner, anInner, leaf(0), beside(2, 1, 3), anEmpty}},
		{[]byte{64}, []api.Item{anInner, anInner, beside(2, 0, 1), anInner, leaf(1), beside(3, 2, 3), anEmpty}},
		{[]byte{97}, []api.Item{anInner, anInner, beside(2, 0, 1), anInner, beside(3, 1, 2), leaf(2), anEmpty}},
		{[]byte{65, 127}, []api.Item{anInner, anInner, beside(2, 0, 1), anInner, leaf(1), leaf(2), anEmpty}},
		{[]byte{0, 64}, []api.Item{anInner, anInner, leaf(0), anInner, leaf(1), beside(3, 2, 3), anEmpty}},
		{[]byte{0, 64, 96, 255}, []api.Item{anInner, anInner, leaf(0), anInner, leaf(1), leaf(2), anEmpty}},
		{[]byte{128}, []api.Item{anInner, beside(1, 0, 3), anEmpty}},
		{[]byte{128, 200, 255}, []api.Item{anInner, beside(1, 0, 3), anEmpty}},
		{[]byte{96, 128}, []api.Item{anInner, anInner, beside(2, 0, 1), anInner, beside(3, 1, 2), leaf(2), anEmpty}},
	} {
		var keys []api.Key
		for _, x := range c.first {
			keys = append(keys, api.Key{x})
		}
		if l, errno := Prove(h, n, keys); errno != api.OK || !slices.Equal(l, c.want) {
			t.Errorf("Prove for %x = %s, %v, want %s", c.first, text(l), errno, text(c.want))
		}
		checkProve(t, h, m, n, keys)
	}
}

// P19.2: as many keys as there may be, of a map of few keys and of many.
func TestProveOfManyKeys(t *testing.T) {
	h := plain.Hasher(256)
	keys := many(65535)
	for _, m := range []plain.Map{plain.OfKeys("few", api.Key{}, api.Key{0, 128}, api.Key{1}), plain.OfKeys("half", keys[:30000]...)} {
		n := m.Tree(h)
		l := checkProve(t, h, m, n, keys)
		if d, errno := Root(h, l); errno != api.OK || d != node.Digest(h, n) {
			t.Errorf("%s: Root = %x, %v", m.Name, d, errno)
		}
		if ends, errno := Ends(l, keys); errno != api.OK || len(ends) != len(keys) {
			t.Errorf("%s: %d ends, %v", m.Name, len(ends), errno)
		}
	}
}

// P19.2: keys that Keys rejects, for trees of each kind.
func TestProveOfWrongKeys(t *testing.T) {
	h := plain.Hasher(256)
	for _, m := range append(plain.Fives(), plain.OfKeys("no keys"), plain.OfKeys("one", api.Key{128})) {
		n := m.Tree(h)
		for want, lists := range wrongKeys() {
			for _, keys := range lists {
				if l, errno := Prove(h, n, keys); errno != want || len(l) != 0 {
					t.Errorf("%s: Prove for %d keys = %s, %v, want %v", m.Name, len(keys), text(l), errno, want)
				}
			}
		}
	}
}

// P19.7: multiproofs are well-formed, lead to the root, and have the ends of the ways; each subtree beside the ways is listed once.
func TestProveFitsItsKeys(t *testing.T) {
	eachList([]int{1, 256}, func(h *digest.Hasher, m plain.Map, n *node.Node, keys []api.Key) {
		l, errno := Prove(h, n, keys)
		if errno != api.OK || Check(l) != api.OK {
			t.Fatalf("%s: %v, and Check = %v", m.Name, errno, Check(l))
		}
		if d, errno := Root(h, l); d != node.Digest(h, n) || errno != api.OK {
			t.Fatalf("%s: Root = %x, %v", m.Name, d, errno)
		}
		ends, errno := Ends(l, keys)
		if errno != api.OK || len(ends) != len(keys) {
			t.Fatalf("%s: %d ends of %d keys, %v", m.Name, len(ends), len(keys), errno)
		}
		for i, k := range keys {
			end, depth := find.Locate(n, k)
			if want := (End{api.Item{Kind: end.Kind(), Leaf: end.Leaf()}, depth}); ends[i] != want || depth != m.Depth(k) {
				t.Fatalf("%s: the way of %x ends at %x, want %x", m.Name, k, ends[i], want)
			}
		}
		checkSiblings(t, m, n, l, keys)
	})
}

// checkSiblings checks that the Sibling items of a multiproof are the subtrees beside the ways of all keys that are not empty, each one once.
func checkSiblings(t *testing.T, m plain.Map, n *node.Node, l []api.Item, keys []api.Key) {
	t.Helper()
	on, beside := map[*node.Node]bool{}, map[*node.Node]bool{}
	for _, k := range keys {
		for _, x := range find.Way(n, k) {
			on[x] = true
		}
		for _, x := range find.Siblings(n, k) {
			if x != nil {
				beside[x] = true
			}
		}
	}
	var want, got []api.Digest
	for x := range beside {
		if !on[x] {
			want = append(want, node.Digest(nil, x))
		}
	}
	for _, x := range l {
		if x.Kind == api.Sibling {
			got = append(got, x.Digest)
		}
	}
	order := func(a, b api.Digest) int { return bytes.Compare(a[:], b[:]) }
	slices.SortFunc(want, order)
	slices.SortFunc(got, order)
	if !slices.Equal(got, want) {
		t.Fatalf("%s: the siblings of %d keys are %x, want %x", m.Name, len(keys), got, want)
	}
}

// P19.6 and P19.7: the preimages on the way of a key are those of the tree, and of the proof of the key alone.
func TestPreimagesOfMultiproofs(t *testing.T) {
	for _, bits := range []int{0, 12, 256} {
		h, sum := plain.Hasher(bits), sumOf(bits)
		for _, m := range append(plain.Fives(), plain.Around(plain.Filled(0x5a))...) {
			n := m.Tree(h)
			keys := key.Sort(append(m.Queries(), plain.Filled(0x5a)))
			l := checkProve(t, h, m, n, keys)
			for i, k := range keys {
				got, errno := Preimages(h, l, k)
				if want := plain.Images(sum, proof.Prove(h, n, k), k); errno != api.OK || !slices.EqualFunc(got, want, bytes.Equal) {
					t.Fatalf("%d bits, %s: Preimages for %x = %x, %v, want %x", bits, m.Name, k, got, errno, want)
				}
				if i%5 > 0 {
					continue
				}
				alone := checkProve(t, h, m, n, []api.Key{k})
				if images, errno := Preimages(h, alone, k); errno != api.OK || !slices.EqualFunc(images, got, bytes.Equal) {
					t.Fatalf("%d bits, %s: Preimages of the multiproof for %x alone = %x, %v", bits, m.Name, k, images, errno)
				}
				checkList(t, h, alone, [][]api.Key{{k}, keys, keys[i:]}, keys)
			}
		}
	}
}

// P19.2: the tree of a layer below, whose map is as before.
func TestProveOfATree(t *testing.T) {
	for _, m := range plain.Fives() {
		x, _ := tree.New(256)
		for _, e := range m.Mixed() {
			if err := x.Put(e.Key[:], e.Value); err != nil {
				t.Fatal(err)
			}
		}
		root := x.Root()
		for _, keys := range keyLists(m) {
			l := checkProve(t, x.Hasher(), m, x.Node(), keys)
			if d, errno := Root(x.Hasher(), l); d != root || errno != api.OK {
				t.Errorf("%s: Root = %x, %v", m.Name, d, errno)
			}
		}
		if x.Root() != root || !slices.EqualFunc(x.Entries(), m.Entries(), plain.Same) {
			t.Errorf("%s: the map is changed", m.Name)
		}
	}
}

// P19.2 and rule 4 of the document: neither the tree nor the keys are changed, nor what is behind the keys, and multiproofs may be changed, with what is behind them.
func TestProveSharesNoMemory(t *testing.T) {
	h := plain.Hasher(256)
	for _, m := range append(plain.Fives(), plain.Around(plain.Filled(0x5a))...) {
		n := m.Tree(h)
		for _, keys := range keyLists(m) {
			whole := append(slices.Clone(keys), api.Key{}, plain.Filled(9))
			given := whole[:len(keys)]
			l, _ := Prove(h, n, given)
			kept, _ := Prove(h, n, given)
			if !slices.Equal(whole, append(slices.Clone(keys), api.Key{}, plain.Filled(9))) {
				t.Fatalf("%s: the keys are changed", m.Name)
			}
			clear(whole)
			clear(l[:cap(l)])
			if want := describe(256, m, keys); !slices.Equal(kept, want) {
				t.Fatalf("%s: the multiproof is changed", m.Name)
			}
			checkProve(t, h, m, n, keys)
			if d := plain.Difference(h, n, m.Tree(h)); d != "" {
				t.Fatalf("%s: the tree is changed: %s", m.Name, d)
			}
		}
	}
}

// The examples of the chapter.
func TestExamples(t *testing.T) {
	for _, bits := range plain.Bits() {
		h, sum := plain.Hasher(bits), sumOf(bits)
		for i, k := range plain.Keys() {
			one := plain.OfKeys(fmt.Sprint("one leaf ", i), k)
			leaf := api.Item{Kind: api.Full, Leaf: sum.Leaf(one.Entries()[0])}
			for _, keys := range [][]api.Key{{k}, {{9}}, {{}, {255}}, plain.Scattered(5, 1)} {
				if l, errno := Prove(h, one.Tree(h), keys); errno != api.OK || !slices.Equal(l, []api.Item{leaf}) {
					t.Errorf("%s: Prove for %x = %s, %v", one.Name, keys, text(l), errno)
				}
			}
		}
		both := plain.OfKeys("0, 255", api.Key{}, api.Key{255})
		want := []api.Item{{Kind: api.Inner}, {Kind: api.Full, Leaf: sum.Leaf(both.Entries()[0])}, {Kind: api.Full, Leaf: sum.Leaf(both.Entries()[1])}}
		if l, errno := Prove(h, both.Tree(h), both.Keys()); errno != api.OK || !slices.Equal(l, want) {
			t.Errorf("Prove for both keys = %s, %v", text(l), errno)
		}
	}
}
