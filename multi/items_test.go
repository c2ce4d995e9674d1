package multi

import (
	"bytes"
	"slices"
	"sync"
	"testing"

	"sparsetree/api"
	"sparsetree/internal/plain"
)

// checkErrno checks that all functions that read a list return its error, and nothing else, for good keys and for wrong ones.
func checkErrno(t *testing.T, name string, l []api.Item, want api.Errno) {
	t.Helper()
	if errno := plain.FormOf(l); errno != want {
		t.Fatalf("%s: %s: the test expects %v and %v", name, text(l), errno, want)
	}
	k := plain.Filled(0x5a)
	checkList(t, plain.Hasher(256), l, [][]api.Key{{k}, nil, {{}, k}, {k, {}}, {k, k}}, []api.Key{k, {}})
}

// P19.3
func TestCheckOfWellFormedLists(t *testing.T) {
	for _, l := range plain.GoodItems() {
		checkErrno(t, "well-formed", l, api.OK)
	}
	for _, l := range plain.Shapes(4, plain.EndItems()) {
		if errno := Check(l); errno != api.OK {
			t.Errorf("%s: Check = %v", text(l), errno)
		}
	}
}

// P19.3: the list that has no items, be it nil or not.
func TestCheckOfNoItems(t *testing.T) {
	for _, l := range [][]api.Item{nil, {}, plain.GoodItems()[0][:0]} {
		checkErrno(t, "no items", l, api.ErrForm)
	}
}

// P19.3: all lists of up to five items, of each kind, of kinds that there are not, and of ones with wrong fields.
func TestCheckOfAllShortLists(t *testing.T) {
	items := []api.Item{anEmpty, aFull, anInner, aSibling, {Kind: 4}, {Kind: -1}, {Kind: 0, Digest: api.Digest{1}}, {Kind: 2, Leaf: aFull.Leaf}, {Kind: 3, Leaf: aFull.Leaf}, {Kind: 1, Digest: api.Digest{31: 1}}}
	found := map[api.Errno]int{}
	var l []api.Item
	var extend func(n int)
	extend = func(n int) {
		want := plain.FormOf(l)
		found[want]++
		if errno := Check(l); errno != want {
			t.Fatalf("%s: Check = %v, want %v", text(l), errno, want)
		}
		if n == 0 {
			return
		}
		for _, x := range items {
			l = append(l, x)
			extend(n - 1)
			l = l[:len(l)-1]
		}
	}
	extend(5)
	if len(found) != 3 || found[api.OK] != 3+9+2*27 {
		t.Errorf("errors %v", found)
	}
}

// P19.3: too few items and too many.
func TestCheckOfWrongNumbersOfItems(t *testing.T) {
	for _, l := range plain.GoodItems() {
		for _, n := range []int{0, 1, len(l) / 2, len(l) - 2, len(l) - 1} {
			if n >= 0 && n < len(l) {
				checkErrno(t, "too few", l[:n], api.ErrForm)
			}
		}
		for _, x := range append(plain.EndItems(), anInner) {
			checkErrno(t, "one too many", append(slices.Clone(l), x), api.ErrForm)
			checkErrno(t, "two too many", append(slices.Clone(l), x, anEmpty), api.ErrForm)
		}
		checkErrno(t, "twice", slices.Concat(l, l), api.ErrForm)
		checkErrno(t, "an Inner item in front", append([]api.Item{anInner}, l...), api.ErrForm)
		if l[0].Kind == api.Inner {
			checkErrno(t, "the first one is left out", l[1:], api.ErrForm)
		}
	}
}

// P19.3: an Inner item at depth 255 is permitted, and at depth 256 it is not, wherever it is.
func TestCheckOfInnerItemsAtEachDepth(t *testing.T) {
	for _, k := range plain.Keys() {
		for _, beside := range plain.EndItems() {
			for _, n := range []int{254, 255, 256, 257, 258, 300} {
				l := plain.Chain(k, n, aFull, func(int) api.Item { return beside })
				want := api.OK
				if n > 256 {
					want = api.ErrForm
				}
				checkErrno(t, "chain", l, want)
			}
		}
		l := plain.Chain(k, 256, aFull, func(int) api.Item { return anEmpty })
		for i, x := range l {
			longer := slices.Concat(l[:i], []api.Item{anInner, anEmpty, anEmpty}, l[i+1:])
			all, _ := plain.Places(l)
			want := api.OK
			if x.Kind == api.Inner || len(all[i].Way) == 256 {
				want = api.ErrForm
			}
			if errno := Check(longer); errno != want {
				t.Fatalf("key %x: with an Inner item at place %d: Check = %v, want %v", k, i, errno, want)
			}
		}
	}
}

// P19.3: lists of many items, which are well-formed or not.
func TestCheckOfLongLists(t *testing.T) {
	checkErrno(t, "complete", plain.Complete("", 13), api.OK)
	checkErrno(t, "complete, one missing", plain.Complete("", 13)[:1<<14-2], api.ErrForm)
	for _, x := range append(plain.EndItems(), anInner) {
		l := slices.Repeat([]api.Item{x}, 1<<20)
		if errno := Check(l); errno != api.ErrForm {
			t.Errorf("the item %x again and again: Check = %v", x, errno)
		}
		l[len(l)-1].Kind = 4
		if errno := Check(l); errno != api.ErrKind {
			t.Errorf("the item %x again and again, and a wrong kind: Check = %v", x, errno)
		}
	}
}

// P19.3: a Digest or a Leaf that is not zero, at each place of a list.
func TestCheckOfFieldsThatAreNotZero(t *testing.T) {
	for _, l := range [][]api.Item{{anEmpty}, {anInner, aFull, aSibling}, {anInner, anInner, anEmpty, aFull, aSibling}, {anInner, aSibling, anInner, aFull, zeroFull}, plain.Complete("", 3)} {
		for i, old := range l {
			for _, x := range plain.ImpureItems() {
				changed := slices.Clone(l)
				changed[i] = x
				checkErrno(t, "another item", changed, api.ErrForm)
				if changed[i].Kind = old.Kind; plain.FormOf(changed) != api.OK {
					checkErrno(t, "other fields", changed, api.ErrForm)
				}
			}
		}
	}
}

// P19.3: kinds that there are not, at each place, in lists that are well-formed otherwise, and in others.
func TestCheckReturnsErrKindFirst(t *testing.T) {
	for _, kind := range plain.BadItemKinds() {
		for _, l := range [][]api.Item{{anEmpty}, {anInner, aFull, aSibling}, {anInner, anInner, anEmpty, aFull, aSibling}, {anInner, aSibling}, {aFull, aFull}, {anInner, anEmpty, aFull, anEmpty}, plain.ImpureItems()} {
			for i := range l {
				changed := slices.Clone(l)
				changed[i].Kind = kind
				checkErrno(t, "one wrong kind", changed, api.ErrKind)
			}
			checkErrno(t, "a wrong kind behind", append(slices.Clone(l), api.Item{Kind: kind}), api.ErrKind)
			checkErrno(t, "a wrong kind and wrong fields behind", append(slices.Clone(l), api.Item{Kind: kind, Digest: api.Digest{1}, Leaf: aFull.Leaf}), api.ErrKind)
		}
		deep := append(plain.Chain(api.Key{}, 300, aFull, func(int) api.Item { return anEmpty }), api.Item{Kind: kind})
		checkErrno(t, "a wrong kind behind Inner items that are too deep", deep, api.ErrKind)
	}
}

// P19.4 and P19.6: each kind of item alone, with hashers for each number of bits.
func TestRootOfOneItem(t *testing.T) {
	for bits := range 257 {
		h := plain.Hasher(bits)
		leaf := slices.Concat([]byte{0}, aFull.Leaf.Key[:], aFull.Leaf.Value[:])
		for _, c := range []struct {
			item  api.Item
			root  api.Digest
			image []byte
			errno api.Errno
		}{
			{anEmpty, sumOf(bits)([]byte{3}), []byte{3}, api.OK},
			{aFull, sumOf(bits)(leaf), leaf, api.OK},
			{zeroFull, sumOf(bits)(make([]byte, 65)), make([]byte, 65), api.OK},
			{aSibling, aSibling.Digest, nil, api.ErrClaim},
			{zeroSibling, api.Digest{}, nil, api.ErrClaim},
		} {
			l := []api.Item{c.item}
			if d, errno := Root(h, l); d != c.root || errno != api.OK {
				t.Errorf("%d bits: Root of %s = %x, %v", bits, text(l), d, errno)
			}
			images, errno := Preimages(h, l, aFull.Leaf.Key)
			if errno != c.errno || errno == api.OK && (len(images) != 1 || !bytes.Equal(images[0], c.image)) || errno != api.OK && len(images) != 0 {
				t.Errorf("%d bits: Preimages of %s = %x, %v", bits, text(l), images, errno)
			}
		}
	}
}

// P19.4: a node over each pair of ends, and nodes over them, written out.
func TestRootOfNodes(t *testing.T) {
	for _, bits := range plain.Bits() {
		h, sum := plain.Hasher(bits), sumOf(bits)
		node := func(a, b api.Digest) api.Digest { return sum.Of(1, a[:], b[:]) }
		sums := []api.Digest{sum.Of(3), sum.Of(0, aFull.Leaf.Key[:], aFull.Leaf.Value[:]), sum.Of(0, make([]byte, 64)), aSibling.Digest, {}}
		for i, a := range plain.EndItems() {
			for j, b := range plain.EndItems() {
				pair := []api.Item{anInner, a, b}
				of := node(sums[i], sums[j])
				for _, c := range []struct {
					l    []api.Item
					want api.Digest
				}{
					{pair, of},
					{slices.Concat([]api.Item{anInner}, pair, []api.Item{a}), node(of, sums[i])},
					{slices.Concat([]api.Item{anInner, a}, pair), node(sums[i], of)},
					{slices.Concat([]api.Item{anInner}, pair, []api.Item{anInner, b, a}), node(of, node(sums[j], sums[i]))},
				} {
					if d, errno := Root(h, c.l); d != c.want || errno != api.OK {
						t.Errorf("%d bits: Root of %s = %x, %v, want %x", bits, text(c.l), d, errno, c.want)
					}
				}
			}
		}
	}
}

// P19.4 and P19.6: lists of each shape and depth, with keys for each of their ends.
func TestRootAndPreimages(t *testing.T) {
	for _, bits := range []int{0, 1, 12, 256} {
		h := plain.Hasher(bits)
		lists := plain.GoodItems()
		if bits == 12 {
			lists = append(lists, plain.Shapes(4, plain.EndItems())...)
		}
		for _, l := range lists {
			keys := keysAt(l)
			if len(keys) > 40 {
				keys = append(keys[:20], keys[len(keys)-20:]...)
			}
			checkList(t, h, l, nil, keys)
		}
	}
}

// P19.6: ways that end at depth 0, at depth 1 and at depth 256, and at each kind of item. The preimages have the digests above them.
func TestPreimagesOfEachDepth(t *testing.T) {
	for _, bits := range []int{0, 12, 256} {
		h := plain.Hasher(bits)
		for _, k := range plain.Keys() {
			for _, n := range []int{0, 1, 2, 8, 9, 255, 256} {
				for _, x := range plain.EndItems() {
					l := plain.Chain(k, n, x, func(depth int) api.Item { return plain.EndItems()[(depth+n)%5] })
					images, errno := Preimages(h, l, k)
					if x.Kind == api.Sibling {
						if len(images) != 0 || errno != api.ErrClaim {
							t.Fatalf("%s: Preimages = %x, %v", text(l), images, errno)
						}
						continue
					}
					want, _ := Root(h, l)
					for d, b := range images {
						if h.Sum(b) != want || d < n && b[0] != 1 {
							t.Fatalf("%s: the preimage %x at depth %d, want one of %x", text(l), b, d, want)
						}
						if side := 1; d < n {
							if plain.Text(k)[d] == '1' {
								side = 33
							}
							want = api.Digest(b[side : side+32])
						}
					}
					if errno != api.OK || len(images) != n+1 {
						t.Fatalf("%s: Preimages = %x, %v", text(l), images, errno)
					}
				}
			}
		}
	}
}

// P19.6: an Inner item on the way of another key only, and a Sibling beside the way, do not matter.
func TestPreimagesOfListsThatDoNotFit(t *testing.T) {
	h := plain.Hasher(256)
	l := []api.Item{anInner, aFull, anInner, anEmpty, aSibling}
	checkList(t, h, l, [][]api.Key{{{}}, {{}, {128}}, {{}, {192}}}, keysAt(l))
	if images, errno := Preimages(h, l, api.Key{}); len(images) != 2 || errno != api.OK {
		t.Errorf("Preimages = %x, %v", images, errno)
	}
	if _, errno := Ends(l, []api.Key{{}}); errno != api.ErrClaim {
		t.Errorf("Ends = %v", errno)
	}
}

// P19.5: all well-formed lists with up to four ends, with all sets of keys of which two end at each place.
func TestEndsOfAllKeys(t *testing.T) {
	found := map[api.Errno]int{}
	for n := range 4 {
		for _, l := range plain.Shapes(n+1, []api.Item{anEmpty, aFull, aSibling}) {
			for _, keys := range subsets(keysAt(l)) {
				found[checkEnds(t, l, keys)]++
			}
		}
	}
	if len(found) != 3 || found[api.OK] < 1000 || found[api.ErrClaim] < 1000 || found[api.ErrNone] == 0 {
		t.Errorf("errors %v", found)
	}
}

// P19.5: ways that end at each depth, of one key and of several.
func TestEndsOfEachDepth(t *testing.T) {
	for i, k := range plain.Keys() {
		for _, x := range plain.EndItems() {
			for n := i % 4; n < 257; n += 4 {
				l := plain.Chain(k, n, x, func(depth int) api.Item { return plain.EndItems()[(depth+n)%3] })
				for _, keys := range [][]api.Key{{k}, {plain.Flipped(k, n/2)}, {plain.Flipped(k, 255)}} {
					checkEnds(t, l, keys)
				}
				if n < 10 || n%64 == 0 {
					checkEnds(t, l, keysAt(l))
				}
			}
		}
	}
}

// P19.5: a Sibling on the way of a key, whether others are beside it or not, and one on the way of no key.
func TestEndsAtASibling(t *testing.T) {
	l := []api.Item{anInner, aSibling, anInner, aFull, zeroSibling}
	for _, c := range []struct {
		keys []api.Key
		want api.Errno
	}{
		{[]api.Key{{128}}, api.OK}, {[]api.Key{{128}, {129}, {191}}, api.OK},
		{[]api.Key{{}}, api.ErrClaim}, {[]api.Key{{}, {128}}, api.ErrClaim}, {[]api.Key{{127}, {128}}, api.ErrClaim},
		{[]api.Key{{192}}, api.ErrClaim}, {[]api.Key{{128}, {192}}, api.ErrClaim}, {[]api.Key{{128}, {255}}, api.ErrClaim}, {[]api.Key{{}, {192}}, api.ErrClaim},
	} {
		if errno := checkEnds(t, l, c.keys); errno != c.want {
			t.Errorf("Ends for %x = %v, want %v", c.keys, errno, c.want)
		}
	}
}

// P19.5: an Inner item on the way of no key, to the left and to the right, whatever is below it.
func TestEndsWithAnInnerItemBesideTheWays(t *testing.T) {
	for _, a := range plain.EndItems() {
		for _, b := range plain.EndItems() {
			left, right := []api.Item{anInner, anInner, a, b, aFull}, []api.Item{anInner, aFull, anInner, a, b}
			for _, c := range []struct {
				l    []api.Item
				keys []api.Key
			}{{left, []api.Key{{128}}}, {left, []api.Key{{128}, {255}}}, {right, []api.Key{{}}}, {right, []api.Key{{}, {127}}}} {
				if errno := checkEnds(t, c.l, c.keys); errno != api.ErrClaim {
					t.Errorf("%s: Ends for %x = %v", text(c.l), c.keys, errno)
				}
			}
		}
	}
}

// P19.5: as many keys as there may be, at the same end and at different ones.
func TestEndsOfManyKeys(t *testing.T) {
	keys := many(65535)
	for _, l := range [][]api.Item{{aFull}, {anEmpty}, {aSibling}, {anInner, aFull, aSibling}, {anInner, aSibling, aFull}} {
		checkEnds(t, l, keys)
	}
	// All keys begin with the same 8 bits.
	l := slices.Concat(slices.Repeat([]api.Item{anInner}, 8), plain.Complete("00000000", 20), slices.Repeat([]api.Item{aSibling}, 8))
	ends, errno := Ends(l, keys)
	if errno != api.OK || len(ends) != len(keys) {
		t.Fatalf("%d ends, %v", len(ends), errno)
	}
	for i, k := range keys {
		if want := plain.KeyOf(plain.Text(k)[:20]); ends[i].Depth != 20 || ends[i].Item.Leaf.Key != want {
			t.Fatalf("the way of %x ends at %x", k, ends[i])
		}
	}
}

// P19.3 and P19.5: wrong keys with lists that are well-formed and fit some keys, with such that fit none, and with malformed ones.
func TestEndsOfWrongKeys(t *testing.T) {
	for want, lists := range wrongKeys() {
		for _, keys := range lists {
			for _, l := range [][]api.Item{{anEmpty}, {aFull}, {aSibling}, {anInner, aFull, anEmpty}, {anInner, aSibling, aFull}, {anInner, aSibling, aSibling}, {anInner, aFull, anInner, aFull, aFull}} {
				if errno := checkEnds(t, l, keys); errno != want {
					t.Errorf("%s: Ends = %v, want %v", text(l), errno, want)
				}
			}
			for _, l := range [][]api.Item{nil, {anInner}, {aFull, aFull}, {anInner, aSibling, anInner}, {{Kind: 0, Leaf: aFull.Leaf}}} {
				if errno := checkEnds(t, l, keys); errno != api.ErrForm {
					t.Errorf("%s: Ends = %v", text(l), errno)
				}
			}
			for _, l := range [][]api.Item{{{Kind: 4}}, {{Kind: -1}, anEmpty}, {anInner, aFull, {Kind: 4, Digest: api.Digest{1}}}} {
				if errno := checkEnds(t, l, keys); errno != api.ErrKind {
					t.Errorf("%s: Ends = %v", text(l), errno)
				}
			}
		}
	}
}

// Rule 4 of the document: no function changes its arguments, or reads or writes what is behind them, and what was given may be changed after a call.
func TestListsAreNotChanged(t *testing.T) {
	h := plain.Hasher(256)
	for _, l := range append(plain.GoodItems(), []api.Item{anInner, aFull}, []api.Item{aFull, aFull}, []api.Item{{Kind: 4}}, plain.ImpureItems()) {
		keys := keysAt(l)
		if len(keys) == 0 {
			keys = plain.Scattered(7, 4)
		}
		for _, behind := range []api.Item{anEmpty, anInner, {Kind: 9}} {
			whole, wholeKeys := append(slices.Clone(l), behind, behind), append(slices.Clone(keys), api.Key{}, api.Key{})
			given, givenKeys := whole[:len(l)], wholeKeys[:len(keys)]
			ends, _ := Ends(given, givenKeys)
			images, _ := Preimages(h, given, keys[0])
			Check(given)
			Root(h, given)
			Keys(givenKeys)
			if !slices.Equal(whole, append(slices.Clone(l), behind, behind)) || !slices.Equal(wholeKeys, append(slices.Clone(keys), api.Key{}, api.Key{})) {
				t.Fatalf("%s: the arguments are changed", text(l))
			}
			clear(whole)
			clear(wholeKeys)
			want, _ := endsOf(l, keys)
			again, _ := Preimages(h, l, keys[0])
			if !slices.Equal(ends, want) || !slices.EqualFunc(images, again, bytes.Equal) {
				t.Fatalf("%s: the results are changed with the arguments", text(l))
			}
			checkList(t, h, l, [][]api.Key{keys}, keys[:1])
		}
	}
}

// Rule 4 of the document: results may be changed, with what is behind them, and others are as before.
func TestListsOfResultsShareNoMemory(t *testing.T) {
	h := plain.Hasher(256)
	for _, l := range plain.GoodItems() {
		keys := keysAt(l)
		first, _ := Ends(l, keys)
		second, _ := Ends(l, keys)
		clear(first[:cap(first)])
		if want, _ := endsOf(l, keys); !slices.Equal(second, want) {
			t.Fatalf("%s: the ends are changed with others", text(l))
		}
		images, errno := Preimages(h, l, keys[0])
		kept, _ := Preimages(h, l, keys[0])
		want, _ := Preimages(h, l, keys[0])
		for i := range images {
			_ = append(images[i], 1, 2, 3)
			clear(images[i][:cap(images[i])])
			if errno == api.OK && !slices.EqualFunc(images[i+1:], want[i+1:], bytes.Equal) || !slices.EqualFunc(kept, want, bytes.Equal) {
				t.Fatalf("%s: the preimages are changed with others", text(l))
			}
		}
		clear(images[:cap(images)])
		checkList(t, h, l, [][]api.Key{keys}, keys[:1])
	}
}

// Rule 6 of the document: the functions may be called concurrently, for the same list.
func TestConcurrentCalls(t *testing.T) {
	lists := plain.GoodItems()
	m := plain.Fives()[0]
	tree := m.Tree(plain.Hasher(256))
	var wait sync.WaitGroup
	for i := range 8 {
		wait.Go(func() {
			h := plain.Hasher(256)
			for j := range lists {
				l := lists[(j*(i+1))%len(lists)]
				keys := keysAt(l)
				want, wantErrno := endsOf(l, keys)
				if got, errno := Ends(l, keys); errno != wantErrno || !slices.Equal(got, want) || Check(l) != api.OK {
					t.Errorf("%s: Ends = %x, %v", text(l), got, errno)
				}
				d, _ := Root(h, l)
				if images, errno := Preimages(h, l, keys[0]); errno == api.OK && h.Sum(images[0]) != d {
					t.Errorf("%s: Preimages = %x", text(l), images)
				}
				if got, errno := Prove(h, tree, m.Keys()[i%3:]); errno != api.OK || !slices.Equal(got, describe(256, m, m.Keys()[i%3:])) {
					t.Errorf("Prove = %s, %v", text(got), errno)
				}
			}
		})
	}
	wait.Wait()
}
