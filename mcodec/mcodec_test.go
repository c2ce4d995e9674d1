package mcodec

import (
	"bytes"
	"fmt"
	"slices"
	"sync"
	"testing"

	"sparsetree/api"
	"sparsetree/codec"
	"sparsetree/digest"
	"sparsetree/internal/plain"
	"sparsetree/key"
	"sparsetree/multi"
	"sparsetree/node"
)

// text describes a list of items, or bytes.
func text[T byte | api.Item](l []T) string {
	return fmt.Sprintf("%x.. of length %d", l[:min(len(l), 200)], len(l))
}

// siblingsOf counts the Sibling items of a list.
func siblingsOf(l []api.Item) int {
	return len(slices.DeleteFunc(slices.Clone(l), func(x api.Item) bool { return x.Kind != 3 }))
}

// checkItems checks all functions for a well-formed list.
func checkItems(t *testing.T, l []api.Item) {
	t.Helper()
	want := plain.ItemsEncoding(l)
	if n := Size(l); n != len(want) {
		t.Fatalf("%s: Size = %d, want %d", text(l), n, len(want))
	}
	if b, errno := Encode(l); errno != api.OK || !bytes.Equal(b, want) {
		t.Fatalf("%s: Encode = %s, %v, want %s", text(l), text(b), errno, text(want))
	}
	if got, errno := Decode(want); errno != api.OK || !slices.Equal(got, l) {
		t.Fatalf("%s: Decode = %s, %v, want %s", text(want), text(got), errno, text(l))
	}
	if n := Siblings(l); n != siblingsOf(l) {
		t.Fatalf("%s: Siblings = %d, want %d", text(l), n, siblingsOf(l))
	}
}

// checkMalformed checks Size, Encode and Siblings for a list that is not well-formed.
func checkMalformed(t *testing.T, name string, l []api.Item, want api.Errno) {
	t.Helper()
	if errno := plain.FormOf(l); errno != want || multi.Check(l) != want {
		t.Fatalf("%s: %s: the test expects %v, and multi.Check = %v, want %v", name, text(l), errno, multi.Check(l), want)
	}
	if n := Size(l); n != 0 {
		t.Fatalf("%s: Size of %s = %d", name, text(l), n)
	}
	if b, errno := Encode(l); len(b) != 0 || errno != want {
		t.Fatalf("%s: Encode of %s = %s, %v, want %v", name, text(l), text(b), errno, want)
	}
	if n := Siblings(l); n != siblingsOf(l) {
		t.Fatalf("%s: Siblings of %s = %d, want %d", name, text(l), n, siblingsOf(l))
	}
}

// checkBytes checks Decode of any bytes, and Encode and Size of the multiproof with the encoding if there is one. It returns the error of Decode.
func checkBytes(t *testing.T, name string, b []byte) api.Errno {
	t.Helper()
	got, errno := Decode(b)
	want, wantErrno := plain.DecodedItems(b)
	if errno != wantErrno || !slices.Equal(got, want) {
		t.Fatalf("%s: Decode of %s = %s, %v, want %s, %v", name, text(b), text(got), errno, text(want), wantErrno)
	}
	if errno != api.OK {
		return errno
	}
	again, second := Encode(got)
	if second != api.OK || !bytes.Equal(again, b) || Size(got) != len(b) || multi.Check(got) != api.OK {
		t.Fatalf("%s: Encode of %s = %s, %v, Size = %d, want %s", name, text(got), text(again), second, Size(got), text(b))
	}
	return errno
}

// checkAll checks Decode of several bytes, and that each of some errors, and no other, is returned for one of them.
func checkAll(t *testing.T, want []api.Errno, each func(check func(name string, b []byte))) {
	t.Helper()
	seen := map[api.Errno]int{}
	each(func(name string, b []byte) {
		t.Helper()
		seen[checkBytes(t, name, b)]++
	})
	for _, errno := range want {
		if seen[errno] == 0 || len(seen) != len(want) {
			t.Errorf("Decode returned the errors %v, want %v", seen, want)
		}
	}
}

// numbered returns bytes with another number of items.
func numbered(b []byte, n int64) []byte {
	return slices.Concat(b[:2], []byte{byte(n >> 24), byte(n >> 16), byte(n >> 8), byte(n)}, b[6:])
}

// marked returns bytes with another version and another second byte.
func marked(b []byte, first, second int) []byte {
	b = slices.Clone(b)
	for i, x := range []int{first, second} {
		if i < len(b) {
			b[i] = byte(x)
		}
	}
	return b
}

// appendBalanced appends a well-formed list with an odd number of items, whose ends follow one another at few depths.
func appendBalanced(l []api.Item, n int, ends []api.Item) []api.Item {
	if n == 1 {
		return append(l, ends[len(l)%len(ends)])
	}
	left := (n - 1) / 2
	left += 1 - left%2
	l = appendBalanced(append(l, api.Item{Kind: 2}), left, ends)
	return appendBalanced(l, n-1-left, ends)
}

// short are well-formed lists of few items, among them one of each kind alone.
func short() [][]api.Item {
	var l [][]api.Item
	for n := range 3 {
		l = append(l, plain.Shapes(n+1, []api.Item{{}, plain.FullItem(), plain.SiblingItem()})...)
	}
	return l
}

// P20.1, P20.2 and P20.4: ends of each kind alone, nodes over them, and long ways.
func TestWellFormedLists(t *testing.T) {
	for _, l := range append(plain.GoodItems(), plain.Shapes(4, plain.EndItems())...) {
		checkItems(t, l)
	}
}

// P20.1, P20.2 and P20.4: lists that are written out, with their bytes.
func TestEncodeByteByByte(t *testing.T) {
	full := api.Item{Kind: 1, Leaf: api.Leaf{Key: api.Key{7, 31: 8}, Value: api.Digest{9, 31: 10}}}
	sibling := api.Item{Kind: 3, Digest: api.Digest{11, 31: 12}}
	zeros := make([]byte, 30)
	leaf := slices.Concat([]byte{1, 7}, zeros, []byte{8, 9}, zeros, []byte{10})
	beside := slices.Concat([]byte{3, 11}, zeros, []byte{12})
	empty, inner := api.Item{Kind: 0}, api.Item{Kind: 2}
	for _, c := range []struct {
		l        []api.Item
		want     []byte
		siblings int
	}{
		{[]api.Item{empty}, []byte{1, 2, 0, 0, 0, 1, 0}, 0},
		{[]api.Item{full}, slices.Concat([]byte{1, 2, 0, 0, 0, 1}, leaf), 0},
		{[]api.Item{{Kind: 1}}, slices.Concat([]byte{1, 2, 0, 0, 0, 1, 1}, make([]byte, 64)), 0},
		{[]api.Item{sibling}, slices.Concat([]byte{1, 2, 0, 0, 0, 1}, beside), 1},
		{[]api.Item{{Kind: 3}}, slices.Concat([]byte{1, 2, 0, 0, 0, 1, 3}, make([]byte, 32)), 1},
		{[]api.Item{inner, empty, empty}, []byte{1, 2, 0, 0, 0, 3, 2, 0, 0}, 0},
		{[]api.Item{inner, full, sibling}, slices.Concat([]byte{1, 2, 0, 0, 0, 3, 2}, leaf, beside), 1},
		{[]api.Item{inner, sibling, full}, slices.Concat([]byte{1, 2, 0, 0, 0, 3, 2}, beside, leaf), 1},
		{[]api.Item{inner, sibling, sibling}, slices.Concat([]byte{1, 2, 0, 0, 0, 3, 2}, beside, beside), 2},
		{[]api.Item{inner, empty, inner, full, sibling}, slices.Concat([]byte{1, 2, 0, 0, 0, 5, 2, 0, 2}, leaf, beside), 1},
		{[]api.Item{inner, inner, sibling, empty, sibling}, slices.Concat([]byte{1, 2, 0, 0, 0, 5, 2, 2}, beside, []byte{0}, beside), 2},
	} {
		b, errno := Encode(c.l)
		if errno != api.OK || !bytes.Equal(b, c.want) || Size(c.l) != len(c.want) || Siblings(c.l) != c.siblings {
			t.Errorf("%x: Encode = %x, %v, Size = %d, Siblings = %d, want %x", c.l, b, errno, Size(c.l), Siblings(c.l), c.want)
		}
		if l, errno := Decode(c.want); errno != api.OK || !slices.Equal(l, c.l) {
			t.Errorf("%x: Decode = %x, %v, want %x", c.want, l, errno, c.l)
		}
	}
}

// P20.1 to P20.4: numbers of items with one byte, with two and with three.
func TestListsOfManyItems(t *testing.T) {
	ends := plain.EndItems()
	for n := 1; n < 1200; n += 2 {
		checkItems(t, appendBalanced(nil, n, ends))
	}
	for _, c := range []struct {
		n      int
		number []byte
	}{
		{253, []byte{0, 0, 0, 253}}, {255, []byte{0, 0, 0, 255}}, {257, []byte{0, 0, 1, 1}}, {259, []byte{0, 0, 1, 3}}, {511, []byte{0, 0, 1, 255}}, {4097, []byte{0, 0, 16, 1}},
		{65279, []byte{0, 0, 254, 255}}, {65281, []byte{0, 0, 255, 1}}, {65535, []byte{0, 0, 255, 255}}, {65537, []byte{0, 1, 0, 1}}, {65539, []byte{0, 1, 0, 3}}, {197123, []byte{0, 3, 2, 3}}, {1048577, []byte{0, 16, 0, 1}},
	} {
		l := appendBalanced(nil, c.n, ends)
		checkItems(t, l)
		if b, errno := Encode(l); len(l) != c.n || errno != api.OK || !bytes.Equal(b[:6], append([]byte{1, 2}, c.number...)) {
			t.Errorf("%d items: Encode = %s, %v", c.n, text(b), errno)
		}
	}
	checkItems(t, plain.Complete("", 16))
}

// P20.1, P20.2 and P20.4: the multiproofs of maps, for few keys and for many.
func TestMultiproofsOfMaps(t *testing.T) {
	kinds := map[int]int{}
	check := func(h *digest.Hasher, n *node.Node, keys []api.Key) {
		l, errno := multi.Prove(h, n, keys)
		if errno != api.OK {
			t.Fatal(errno)
		}
		checkItems(t, l)
		for _, x := range l {
			kinds[x.Kind]++
		}
	}
	plain.EachQuery([]int{0, 256}, func(h *digest.Hasher, m plain.Map, n *node.Node, k api.Key) { check(h, n, []api.Key{k}) })
	for _, m := range plain.Maps() {
		h := plain.Hasher(12)
		keys := key.Sort(append(m.Queries(), m.Keys()...))
		check(h, m.Tree(h), keys)
		check(h, m.Tree(h), keys[len(keys)/2:])
	}
	if len(kinds) != 4 {
		t.Errorf("items of the kinds %v", kinds)
	}
}

// P20.1 and P20.2: the list that has no items, be it nil or not.
func TestNoItems(t *testing.T) {
	for _, l := range [][]api.Item{nil, {}, plain.GoodItems()[0][:0]} {
		checkMalformed(t, "no items", l, api.ErrForm)
	}
}

// P20.1 and P20.2: an Inner item alone, too few items, too many, and Inner items that are too deep.
func TestWrongNumbersOfItems(t *testing.T) {
	checkMalformed(t, "an Inner item alone", []api.Item{{Kind: 2}}, api.ErrForm)
	for _, l := range plain.GoodItems() {
		for _, n := range []int{1, len(l) / 2, len(l) - 2, len(l) - 1} {
			if n > 0 && n < len(l) {
				checkMalformed(t, "too few", l[:n], api.ErrForm)
			}
		}
		for _, x := range append(plain.EndItems(), api.Item{Kind: 2}) {
			checkMalformed(t, "too many", append(slices.Clone(l), x), api.ErrForm)
		}
		checkMalformed(t, "twice", slices.Concat(l, l), api.ErrForm)
		checkMalformed(t, "an Inner item in front", append([]api.Item{{Kind: 2}}, l...), api.ErrForm)
	}
	for _, k := range plain.Keys() {
		for _, n := range []int{257, 258, 300} {
			checkMalformed(t, "too deep", plain.Chain(k, n, plain.FullItem(), func(int) api.Item { return plain.SiblingItem() }), api.ErrForm)
		}
	}
}

// P20.1 and P20.2: fields that are not zero though the kind of the item does not use them, at each place of a list.
func TestFieldsThatAreNotZero(t *testing.T) {
	for _, l := range [][]api.Item{{{}}, {{Kind: 2}, plain.FullItem(), plain.SiblingItem()}, plain.Complete("", 3)} {
		for i := range l {
			for _, x := range plain.ImpureItems() {
				changed := slices.Clone(l)
				changed[i] = x
				checkMalformed(t, "another item", changed, api.ErrForm)
			}
		}
	}
}

// P20.1 and P20.2: kinds that there are not come first, in lists that are well-formed otherwise, and in others.
func TestEncodeReturnsErrKindFirst(t *testing.T) {
	lists := append(short(), []api.Item{{Kind: 2}}, []api.Item{{}, {}}, plain.ImpureItems(), plain.Chain(api.Key{}, 300, plain.FullItem(), func(int) api.Item { return api.Item{} }))
	for _, kind := range plain.BadItemKinds() {
		for _, l := range lists {
			for _, i := range []int{0, len(l) / 2, len(l) - 1} {
				changed := slices.Clone(l)
				changed[i].Kind = kind
				checkMalformed(t, "a wrong kind", changed, api.ErrKind)
			}
			checkMalformed(t, "a wrong kind behind", append(slices.Clone(l), api.Item{Kind: kind}), api.ErrKind)
		}
	}
}

// P20.1: Siblings of every list, be it well-formed or not.
func TestSiblings(t *testing.T) {
	sibling := plain.SiblingItem()
	impure := api.Item{Kind: 3, Leaf: plain.FullItem().Leaf}
	for _, c := range []struct {
		l    []api.Item
		want int
	}{
		{nil, 0}, {[]api.Item{}, 0}, {[]api.Item{{}}, 0}, {[]api.Item{plain.FullItem()}, 0}, {[]api.Item{{Kind: 2}}, 0}, {[]api.Item{{Kind: 2}, {}, {Kind: 1}}, 0},
		{[]api.Item{sibling}, 1}, {[]api.Item{{Kind: 3}}, 1}, {[]api.Item{impure}, 1}, {[]api.Item{{Kind: 2}, sibling}, 1}, {[]api.Item{{Kind: 2}, {}, sibling}, 1},
		{[]api.Item{sibling, sibling}, 2}, {[]api.Item{sibling, {Kind: 3}, impure}, 3}, {[]api.Item{{Kind: 4}, sibling, {Kind: -1}, sibling, {}}, 2},
		{[]api.Item{{Kind: 0, Digest: sibling.Digest}, {Kind: 1, Digest: sibling.Digest}, {Kind: 2, Digest: sibling.Digest}, {Kind: 4, Digest: sibling.Digest}}, 0},
		{[]api.Item{{Kind: 259}, {Kind: 1<<32 + 3}, {Kind: -3}, {Kind: -253}}, 0},
		{slices.Repeat([]api.Item{sibling}, 300), 300}, {slices.Repeat([]api.Item{sibling, {}}, 70000), 70000},
	} {
		if n := Siblings(c.l); n != c.want {
			t.Errorf("%s: Siblings = %d, want %d", text(c.l), n, c.want)
		}
	}
	for _, kind := range plain.BadItemKinds() {
		if n := Siblings([]api.Item{{Kind: kind, Digest: sibling.Digest}, sibling, {Kind: kind}}); n != 1 {
			t.Errorf("the kind %d: Siblings = %d", kind, n)
		}
	}
}

// P20.3
func TestDecodeOfNoBytes(t *testing.T) {
	for _, b := range [][]byte{nil, {}, plain.ItemsEncoding(nil)[:0]} {
		if l, errno := Decode(b); len(l) != 0 || errno != api.ErrForm {
			t.Errorf("Decode = %x, %v", l, errno)
		}
	}
}

// P20.3: the errors in the order of the chapter, written out.
func TestDecodeReturnsTheFirstError(t *testing.T) {
	for _, c := range []struct {
		b    []byte
		want api.Errno
	}{
		{[]byte{1}, api.ErrForm}, {[]byte{1, 2}, api.ErrForm}, {[]byte{2, 2}, api.ErrForm}, {[]byte{1, 1}, api.ErrForm}, {[]byte{1, 2, 0, 0, 0}, api.ErrForm}, {[]byte{0, 0, 0, 0, 0}, api.ErrForm}, {[]byte{2, 3, 0, 0, 1}, api.ErrForm},
		{[]byte{0, 2, 0, 0, 0, 0}, api.ErrVersion}, {[]byte{2, 2, 0, 0, 0, 1, 0}, api.ErrVersion}, {[]byte{2, 1, 0, 0, 0, 1, 0}, api.ErrVersion}, {[]byte{255, 255, 255, 255, 255, 255}, api.ErrVersion}, {[]byte{129, 2, 0, 0, 0, 1, 4}, api.ErrVersion},
		{[]byte{1, 0, 0, 0, 0, 0}, api.ErrKind}, {[]byte{1, 1, 0, 0, 0, 1, 0}, api.ErrKind}, {[]byte{1, 3, 0, 0, 0, 1, 0}, api.ErrKind}, {[]byte{1, 130, 0, 0, 0, 1, 0}, api.ErrKind}, {[]byte{1, 255, 255, 255, 255, 255}, api.ErrKind}, {[]byte{1, 0, 0, 0, 0, 1, 4}, api.ErrKind},
		{[]byte{1, 2, 0, 0, 0, 0}, api.ErrForm}, {[]byte{1, 2, 0, 0, 0, 1}, api.ErrForm}, {[]byte{1, 2, 255, 255, 255, 255}, api.ErrForm}, {[]byte{1, 2, 0, 0, 0, 0, 0}, api.ErrForm}, {[]byte{1, 2, 0, 0, 0, 2, 0}, api.ErrForm}, {[]byte{1, 2, 0, 0, 0, 2, 0, 0}, api.ErrForm},
		{[]byte{1, 2, 0, 0, 0, 1, 1}, api.ErrForm}, {[]byte{1, 2, 0, 0, 0, 1, 2}, api.ErrForm}, {[]byte{1, 2, 0, 0, 0, 1, 3}, api.ErrForm}, {[]byte{1, 2, 0, 0, 0, 1, 4}, api.ErrForm}, {[]byte{1, 2, 0, 0, 0, 1, 255}, api.ErrForm}, {[]byte{1, 2, 0, 0, 0, 3, 2, 0, 4}, api.ErrForm},
		{[]byte{1, 2, 0, 0, 0, 3, 2, 0}, api.ErrForm}, {[]byte{1, 2, 0, 0, 0, 2, 2, 0}, api.ErrForm}, {[]byte{1, 2, 0, 0, 0, 3, 0, 0, 0}, api.ErrForm}, {[]byte{1, 2, 0, 0, 0, 4, 2, 0, 0, 0}, api.ErrForm}, {[]byte{1, 2, 0, 0, 0, 3, 2, 0, 0, 0}, api.ErrForm},
		{[]byte{1, 2, 0, 0, 0, 1, 0}, api.OK}, {[]byte{1, 2, 0, 0, 0, 3, 2, 0, 0}, api.OK}, {[]byte{1, 2, 0, 0, 0, 5, 2, 0, 2, 0, 0}, api.OK},
	} {
		if errno := checkBytes(t, "first error", c.b); errno != c.want {
			t.Errorf("%x: Decode: %v, want %v", c.b, errno, c.want)
		}
	}
}

// P20.3: each first byte with each second one, in bytes of each length around that of the head, and in encodings and other bytes.
func TestDecodeOfEachVersionAndMark(t *testing.T) {
	checkAll(t, []api.Errno{api.OK, api.ErrForm, api.ErrVersion, api.ErrKind}, func(check func(name string, b []byte)) {
		for _, whole := range [][]byte{{1, 2, 0, 0, 0, 1, 0}, make([]byte, 9), slices.Repeat([]byte{255}, 9), {0, 0, 0, 0, 0, 3, 2, 0, 0}, plain.ItemsEncoding([]api.Item{plain.FullItem()})} {
			lengths := []int{len(whole)}
			for n := range 10 {
				lengths = append(lengths, min(n, len(whole)))
			}
			for _, n := range lengths {
				for first := range 256 {
					for second := range 256 {
						check("version and mark", marked(whole[:n], first, second))
					}
				}
			}
		}
	})
}

// P20.3: the encodings of proofs for single keys are none of multiproofs.
func TestDecodeOfProofs(t *testing.T) {
	for _, p := range plain.GoodProofs() {
		b, _ := codec.Encode(p)
		if errno := checkBytes(t, "a proof", b); errno != api.ErrKind {
			t.Errorf("Decode of %s: %v", text(b), errno)
		}
	}
}

// P20.3: of all numbers, one is that of the items.
func TestDecodeOfOtherNumbers(t *testing.T) {
	for _, l := range append(short(), plain.Complete("", 5), appendBalanced(nil, 257, plain.EndItems()), appendBalanced(nil, 65537, plain.EndItems())) {
		b, n := plain.ItemsEncoding(l), int64(len(l))
		numbers := []int64{0, 1, 2, 3, n - 2, n - 1, n + 1, n + 2, 2 * n, int64(len(b)) - 7, int64(len(b)) - 6, int64(len(b)) - 5, int64(len(b)), 1<<24 - 1, 1 << 24, 1<<24 + 1, 1<<31 - 1, 1 << 31, 1<<31 + 1, 1<<32 - 2, 1<<32 - 1}
		for _, shift := range []int{8, 16, 24, 31} {
			numbers = append(numbers, n+1<<shift, n<<shift, n^1<<shift, n|255<<shift)
		}
		for _, other := range numbers {
			other &= 1<<32 - 1
			if errno := checkBytes(t, "number", numbered(b, other)); (errno == api.OK) != (other == n) || errno != api.OK && errno != api.ErrForm {
				t.Fatalf("%s with the number %d: %v", text(b), other, errno)
			}
		}
		for i := 2; i < 6 && n < 100; i++ {
			for x := range 256 {
				changed := slices.Clone(b)
				changed[i] = byte(x)
				if errno := checkBytes(t, "number", changed); (errno == api.OK) != (changed[i] == b[i]) {
					t.Fatalf("%s: %v", text(changed), errno)
				}
			}
		}
	}
}

// P20.3 and P20.4: each kind at each place of a list.
func TestDecodeOfEachKind(t *testing.T) {
	checkAll(t, []api.Errno{api.OK, api.ErrForm}, func(check func(name string, b []byte)) {
		for _, l := range append(short(), plain.Complete("", 4)) {
			b, i := plain.ItemsEncoding(l), 6
			for _, x := range l {
				for kind := range 256 {
					changed := slices.Clone(b)
					changed[i] = byte(kind)
					check("kind", changed)
				}
				i += []int{1, 65, 1, 33}[x.Kind]
			}
		}
	})
}

// P20.3 and P20.4: every beginning of encodings, with the number of all items, and with that of the whole items and one more.
func TestDecodeOfEachBeginning(t *testing.T) {
	for _, l := range append(plain.GoodItems(), appendBalanced(nil, 301, plain.EndItems())) {
		b := plain.ItemsEncoding(l)
		for n := range len(b) {
			if n > 150 && n < len(b)-70 && n%67 > 0 {
				continue
			}
			if errno := checkBytes(t, "a beginning", b[:n]); errno != api.ErrForm {
				t.Fatalf("%s: %v", text(b[:n]), errno)
			}
		}
		end := 6
		for i, x := range l {
			size := []int{1, 65, 1, 33}[x.Kind]
			for _, cut := range []int{0, 1, 2, 32, 33, 34, 64} {
				if cut < size && i < 70 {
					for number := max(0, i-1); number < i+3; number++ {
						if errno := checkBytes(t, "a cut item", numbered(b[:end+cut], int64(number))); errno != api.ErrForm {
							t.Fatalf("%s with %d items: %v", text(b[:end+cut]), number, errno)
						}
					}
				}
			}
			end += size
		}
	}
}

// P20.3 and P20.4: bytes behind the last item, with the number of the items that are there, and with more.
func TestDecodeOfBytesBehind(t *testing.T) {
	for _, l := range plain.GoodItems() {
		b := plain.ItemsEncoding(l)
		for _, n := range []int{1, 2, 3, 31, 32, 33, 34, 64, 65, 66, 256} {
			for _, x := range []byte{0, 1, 2, 3, 4, 255} {
				behind := slices.Repeat([]byte{x}, n)
				for more := range 3 {
					if errno := checkBytes(t, "bytes behind", numbered(slices.Concat(b, behind), int64(len(l)+more))); errno != api.ErrForm {
						t.Fatalf("%s and %s: %v", text(b), text(behind), errno)
					}
				}
			}
		}
		for _, x := range append(plain.EndItems(), api.Item{Kind: 2}) {
			if errno := checkBytes(t, "an item behind", plain.ItemsEncoding(append(slices.Clone(l), x))); errno != api.ErrForm {
				t.Fatalf("%s with another item: %v", text(l), errno)
			}
		}
	}
}

// P20.3 and P20.4: all lists of up to five items, whole ones and cut ones, and each number up to six.
func TestDecodeOfAllShortLists(t *testing.T) {
	full, sibling := plain.ItemsEncoding([]api.Item{plain.FullItem()})[6:], plain.ItemsEncoding([]api.Item{plain.SiblingItem()})[6:]
	parts := [][]byte{{0}, {2}, full, sibling, {4}, full[:64], sibling[:32]}
	checkAll(t, []api.Errno{api.OK, api.ErrForm}, func(check func(name string, b []byte)) {
		var extend func(b []byte, n int)
		extend = func(b []byte, n int) {
			for number := range int64(7) {
				check("short list", numbered(b, number))
			}
			for i := 0; i < len(parts) && n > 0; i++ {
				extend(slices.Concat(b, parts[i]), n-1)
			}
		}
		extend([]byte{1, 2, 0, 0, 0, 0}, 5)
	})
}

// P20.3: Inner items down to depth 255 are permitted, and below they are not, on each way.
func TestDecodeOfInnerItemsAtEachDepth(t *testing.T) {
	for _, k := range plain.Keys() {
		for _, x := range plain.EndItems() {
			for _, n := range []int{0, 1, 2, 254, 255, 256, 257, 258, 300, 1000} {
				want := api.OK
				if n > 256 {
					want = api.ErrForm
				}
				b := plain.ItemsEncoding(plain.Chain(k, n, x, func(depth int) api.Item { return plain.EndItems()[depth%5] }))
				if errno := checkBytes(t, "chain", b); errno != want {
					t.Fatalf("%d Inner items on the way of %x: %v", n, k, errno)
				}
			}
		}
	}
}

// P20.3 and P20.4: each byte of short encodings, changed in each way or in several, and the first bytes, the last ones and others of all.
func TestDecodeOfChangedBytes(t *testing.T) {
	checkAll(t, []api.Errno{api.OK, api.ErrForm, api.ErrVersion, api.ErrKind}, func(check func(name string, b []byte)) {
		change := func(b []byte, i int, x byte) {
			b[i] ^= x
			check("changed byte", b)
			b[i] ^= x
		}
		for _, l := range append(short(), plain.Complete("", 2)) {
			b, step := plain.ItemsEncoding(l), 1
			if len(l) > 3 {
				step = 17
			}
			for i := range b {
				for x := step; x < 256; x += step {
					change(b, i, byte(x))
				}
			}
		}
		for _, l := range plain.GoodItems() {
			b := plain.ItemsEncoding(l)
			for i := range b {
				if i < 75 || i >= len(b)-35 || i%997 == 0 {
					for _, x := range []byte{1, 2, 255} {
						change(b, i, x)
					}
				}
			}
		}
	})
}

// P20.3 and P20.4: bytes that are left out or added anywhere.
func TestDecodeOfBytesTooFewOrTooMany(t *testing.T) {
	checkAll(t, []api.Errno{api.OK, api.ErrForm, api.ErrVersion, api.ErrKind}, func(check func(name string, b []byte)) {
		for _, l := range short() {
			b := plain.ItemsEncoding(l)
			for i := range len(b) + 1 {
				for _, n := range []int{1, 2, 32, 33, 64, 65} {
					check("too few", slices.Concat(b[:i], b[min(i+n, len(b)):]))
					check("too many", slices.Concat(b[:i], make([]byte, n), b[i:]))
					check("too many", slices.Concat(b[:i], slices.Repeat([]byte{2}, n), b[i:]))
				}
			}
		}
	})
}

// P20.3 and P20.4: bytes that look like random ones, with such kinds that lists of a few items come about.
func TestDecodeOfScatteredBytes(t *testing.T) {
	checkAll(t, []api.Errno{api.OK, api.ErrForm, api.ErrVersion, api.ErrKind}, func(check func(name string, b []byte)) {
		for seed := range 50000 {
			l := plain.Scattered(uint64(1000*seed), 4)
			b := []byte{1, 2, 0, 0, 0, 0}
			n := int(1 + l[0][0]%7)
			for i := range n {
				x := api.Item{Kind: int(l[1][i]) % 4}
				if i == 0 && n > 1 {
					x.Kind = 2
				}
				x.Digest, x.Leaf = api.Digest(l[2]), api.Leaf{Key: l[3], Value: api.Digest(l[1])}
				b = append(b, plain.ItemsEncoding([]api.Item{x})[6:]...)
			}
			b[5] = byte(n)
			switch l[0][1] % 16 {
			case 0:
				b[l[0][2]%6] ^= l[0][3]
			case 1:
				b = b[:int(l[0][2])%len(b)]
			}
			check("scattered items", b)
			check("only scattered bytes", slices.Concat([]byte{1, 2, 0, 0, 0, l[0][4] % 8}, l[2][:l[0][5]%16]))
		}
	})
}

// P20.3: numbers that are too great for the bytes take no memory.
func TestDecodeOfGreatNumbersTakesNoMemory(t *testing.T) {
	for _, b := range [][]byte{{1, 2, 0, 0, 0, 1, 0}, plain.ItemsEncoding(plain.Complete("", 10)), plain.ItemsEncoding(appendBalanced(nil, 65537, []api.Item{{}}))} {
		for _, n := range []int64{1 << 20, 1<<24 - 1, 1 << 24, 1<<24 + 1, 1 << 31, 1<<32 - 1} {
			changed := numbered(b, n)
			if allocs := testing.AllocsPerRun(4, func() {
				if l, errno := Decode(changed); len(l) != 0 || errno != api.ErrForm {
					t.Errorf("%d bytes with the number %d: %d items, %v", len(b), n, len(l), errno)
				}
			}); allocs > 0 {
				t.Errorf("%d bytes with the number %d take memory %v times", len(b), n, allocs)
			}
		}
	}
}

// balancedBytes returns the encoding of a well-formed list with a number of items, all of which are Empty or Inner, as if every number were permitted.
func balancedBytes(n int) []byte {
	b := numbered([]byte{1, 2, 0, 0, 0, 0}, int64(n))
	var add func(n int)
	add = func(n int) {
		if n == 1 {
			b = append(b, 0)
			return
		}
		left := (n - 1) / 2
		left += 1 - left%2
		b = append(b, 2)
		add(left)
		add(n - 1 - left)
	}
	add(n)
	return b
}

// P20.3: more than 2^24 items have no encoding, and numbers beyond are not taken for those of fewer items.
func TestDecodeOfMoreItemsThanThereMayBe(t *testing.T) {
	for _, items := range []int{1<<24 + 1, 1<<24 + 255, 1<<23 + 1, 1<<16 + 1, 1} {
		b := balancedBytes(items)
		for _, n := range []int64{1<<24 + 1, 1<<24 + 255, 1<<24 + int64(items), 1<<31 + int64(items)} {
			if l, errno := Decode(numbered(b, n)); len(l) != 0 || errno != api.ErrForm {
				t.Errorf("%d items with the number %d: Decode returned %d items, %v", items, n, len(l), errno)
			}
		}
	}
}

// P20.1 to P20.4: as many items as a well-formed list may have, whose number is always odd.
func TestAsManyItemsAsThereMayBe(t *testing.T) {
	if testing.Short() {
		t.Skip("takes 3 GiB of memory")
	}
	const n = 1<<24 - 1
	b := balancedBytes(n)
	l, errno := Decode(b)
	if len(l) != n || errno != api.OK {
		t.Fatalf("Decode returned %d items, %v", len(l), errno)
	}
	if again, errno := Encode(l); errno != api.OK || !bytes.Equal(again, b) {
		t.Errorf("Encode = %s, %v", text(again), errno)
	}
}

// P20.4: different multiproofs have different encodings.
func TestEncodingsDiffer(t *testing.T) {
	seen := map[string][]api.Item{}
	for _, l := range append(plain.GoodItems(), plain.Shapes(4, plain.EndItems())...) {
		b, errno := Encode(l)
		if other, found := seen[string(b)]; errno != api.OK || found && !slices.Equal(l, other) {
			t.Errorf("%s and %s are both encoded by %s, %v", text(l), text(other), text(b), errno)
		}
		seen[string(b)] = l
	}
}

// Rule 4 of the document: no function changes the items, and what is behind them is neither read nor written.
func TestItemsAreNotChanged(t *testing.T) {
	lists := append(plain.GoodItems(), []api.Item{}, []api.Item{{Kind: 2}}, []api.Item{{}, {}}, []api.Item{{Kind: 4}}, plain.ImpureItems())
	for _, l := range lists {
		for _, behind := range []api.Item{{}, {Kind: 2}, plain.SiblingItem(), {Kind: 9}} {
			whole := append(slices.Clone(l), behind, behind)
			before := slices.Clone(whole)
			given := whole[:len(l)]
			if plain.FormOf(l) == api.OK {
				checkItems(t, given)
			} else {
				checkMalformed(t, "with others behind them", given, plain.FormOf(l))
			}
			if !slices.Equal(whole, before) {
				t.Fatalf("%s: changed to %s", text(before), text(whole))
			}
		}
	}
}

// Rule 4 of the document: Decode does not change the bytes, and what is behind them is neither read nor written.
func TestBytesAreNotChanged(t *testing.T) {
	for _, l := range plain.GoodItems() {
		end := len(plain.ItemsEncoding(l))
		for _, behind := range []byte{0, 2, 3} {
			whole := append(plain.ItemsEncoding(l), behind, behind, behind)
			before := slices.Clone(whole)
			for _, n := range []int{0, 1, 5, 6, 7, 38, 39, end - 33, end - 1, end, end + 1} {
				checkBytes(t, "with others behind them", whole[:max(0, min(n, len(whole)))])
				if !bytes.Equal(whole, before) {
					t.Fatalf("%s: changed to %s", text(before), text(whole))
				}
			}
		}
	}
}

// Rule 4 of the document: what was given and what was returned may be changed, with what is behind it; no other result changes.
func TestResultsShareNoMemory(t *testing.T) {
	for _, l := range plain.GoodItems() {
		want, given := plain.ItemsEncoding(l), slices.Clone(l)
		b, _ := Encode(given)
		kept, _ := Encode(given)
		clear(b[:cap(b)])
		if !slices.Equal(given, l) {
			t.Fatalf("%s: changed with the encoding", text(l))
		}
		clear(given)
		if !bytes.Equal(kept, want) {
			t.Fatalf("%s: after a result and the items were changed: %s", text(l), text(kept))
		}
		decoded, _ := Decode(kept)
		again, _ := Decode(kept)
		clear(decoded[:cap(decoded)])
		if !bytes.Equal(kept, want) {
			t.Fatalf("%s: changed with the items", text(want))
		}
		clear(kept)
		if !slices.Equal(again, l) {
			t.Fatalf("%s: after a result and the bytes were changed: %s", text(l), text(again))
		}
	}
}

// Rule 6 of the document: the functions may be called concurrently, for the same lists and bytes.
func TestConcurrentCalls(t *testing.T) {
	lists := plain.GoodItems()
	var wait sync.WaitGroup
	for range 8 {
		wait.Go(func() {
			for _, l := range lists {
				want := plain.ItemsEncoding(l)
				b, errno := Encode(l)
				got, second := Decode(b)
				if errno != api.OK || second != api.OK || !bytes.Equal(b, want) || !slices.Equal(got, l) || Size(l) != len(b) || Siblings(l) != siblingsOf(l) {
					t.Errorf("other results for %s", text(l))
				}
			}
		})
	}
	wait.Wait()
}

// The example of the chapter.
func TestExample(t *testing.T) {
	one, want := []api.Item{{Kind: api.Empty}}, []byte{1, 2, 0, 0, 0, 1, 0}
	if b, errno := Encode(one); errno != api.OK || !bytes.Equal(b, want) || Size(one) != 7 || Siblings(one) != 0 {
		t.Errorf("Encode = %x, %v, Size = %d, Siblings = %d", b, errno, Size(one), Siblings(one))
	}
	if l, errno := Decode(want); errno != api.OK || !slices.Equal(l, one) {
		t.Errorf("Decode = %x, %v", l, errno)
	}
}
