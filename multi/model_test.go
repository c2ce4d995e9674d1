package multi

import (
	"bytes"
	"crypto/sha256"
	"fmt"
	"slices"
	"strings"
	"testing"

	"sparsetree/api"
	"sparsetree/digest"
	"sparsetree/internal/plain"
)

// sumOf returns the function that computes digests of a number of bits, without a hasher.
func sumOf(bits int) plain.Sum {
	return func(b []byte) api.Digest { return digest.Cut(sha256.Sum256(b), bits) }
}

// place is an item of a list, with the digits of the bits that lead to it.
type place struct {
	way  string
	item api.Item
}

// places returns the items of a list with their ways, and whether the list is well-formed.
func places(l []api.Item) ([]place, bool) {
	var found []place
	open := []string{""}
	for _, x := range l {
		if len(open) == 0 {
			return nil, false
		}
		way := open[len(open)-1]
		open = open[:len(open)-1]
		if x.Kind != 3 && x.Digest != [32]byte{} || x.Kind != 1 && (x.Leaf.Key != [32]byte{} || x.Leaf.Value != [32]byte{}) {
			return nil, false
		}
		if x.Kind == 2 {
			if len(way) > 255 {
				return nil, false
			}
			open = append(open, way+"1", way+"0")
		}
		found = append(found, place{way, x})
	}
	if len(open) > 0 {
		return nil, false
	}
	return found, true
}

// formOf tells what Check of a list returns, as the chapter says it.
func formOf(l []api.Item) api.Errno {
	for _, x := range l {
		if x.Kind < 0 || x.Kind > 3 {
			return 7
		}
	}
	if _, ok := places(l); !ok {
		return 5
	}
	return 0
}

// keysOf tells what Keys returns, as the chapter says it.
func keysOf(keys []api.Key) api.Errno {
	if len(keys) == 0 {
		return 10
	}
	if len(keys) > 65535 {
		return 11
	}
	for i := range keys[1:] {
		if c := bytes.Compare(keys[i][:], keys[i+1][:]); c == 0 {
			return 9
		} else if c > 0 {
			return 8
		}
	}
	return 0
}

// wayTo returns the places on the way of a key.
func wayTo(l []place, k api.Key) []place {
	digits := plain.Text(k)
	var way []place
	for _, x := range l {
		if strings.HasPrefix(digits, x.way) {
			way = append(way, x)
		}
	}
	return way
}

// endsOf tells what Ends of a list returns, as the chapter says it.
func endsOf(l []api.Item, keys []api.Key) ([]End, api.Errno) {
	if errno := formOf(l); errno != 0 {
		return nil, errno
	}
	if errno := keysOf(keys); errno != 0 {
		return nil, errno
	}
	all, _ := places(l)
	var ends []End
	reached := map[string]bool{}
	for _, k := range keys {
		way := wayTo(all, k)
		for _, x := range way {
			reached[x.way] = true
		}
		last := way[len(way)-1]
		if last.item.Kind == 3 {
			return nil, 12
		}
		ends = append(ends, End{last.item, len(last.way)})
	}
	for _, x := range all {
		if x.item.Kind == 2 && !reached[x.way] {
			return nil, 12
		}
	}
	return ends, 0
}

// digestsOf returns the digests of the subtrees of a well-formed list, and the preimages of those that have one, by their ways.
func digestsOf(bits int, l []place) (map[string]api.Digest, map[string][]byte) {
	sums, images := map[string]api.Digest{}, map[string][]byte{}
	for _, x := range slices.Backward(l) {
		switch x.item.Kind {
		case 0:
			images[x.way] = []byte{3}
		case 1:
			images[x.way] = slices.Concat([]byte{0}, x.item.Leaf.Key[:], x.item.Leaf.Value[:])
		case 2:
			left, right := sums[x.way+"0"], sums[x.way+"1"]
			images[x.way] = slices.Concat([]byte{1}, left[:], right[:])
		case 3:
			sums[x.way] = x.item.Digest
			continue
		}
		sums[x.way] = sumOf(bits)(images[x.way])
	}
	return sums, images
}

// text describes a list of items.
func text(l []api.Item) string {
	var b strings.Builder
	for _, x := range l[:min(len(l), 12)] {
		fmt.Fprintf(&b, "%d", x.Kind)
		if x.Digest != (api.Digest{}) {
			fmt.Fprintf(&b, " digest %x", x.Digest)
		}
		if x.Leaf != (api.Leaf{}) {
			fmt.Fprintf(&b, " leaf %x", x.Leaf)
		}
		b.WriteString(", ")
	}
	return fmt.Sprintf("%s%d items", b.String(), len(l))
}

// checkList checks the functions that read a list: Ends for each of some lists of keys, and Preimages for each of some keys.
func checkList(t *testing.T, h *digest.Hasher, l []api.Item, lists [][]api.Key, keys []api.Key) {
	t.Helper()
	want := formOf(l)
	if errno := Check(l); errno != want {
		t.Fatalf("%s: Check = %v, want %v", text(l), errno, want)
	}
	var all []place
	if want == 0 {
		all, _ = places(l)
	}
	sums, images := digestsOf(h.Bits(), all)
	if d, errno := Root(h, l); d != sums[""] || errno != want {
		t.Fatalf("%d bits, %s: Root = %x, %v, want %x, %v", h.Bits(), text(l), d, errno, sums[""], want)
	}
	for _, list := range lists {
		checkEnds(t, l, list)
	}
	for _, k := range keys {
		wantImages, wantErrno := [][]byte(nil), want
		for _, x := range wayTo(all, k) {
			wantImages = append(wantImages, images[x.way])
		}
		if n := len(wantImages); n > 0 && wantImages[n-1] == nil {
			wantImages, wantErrno = nil, 12
		}
		got, errno := Preimages(h, l, k)
		if errno != wantErrno || !slices.EqualFunc(got, wantImages, bytes.Equal) {
			t.Fatalf("%d bits, %s: Preimages for %x = %x, %v, want %x, %v", h.Bits(), text(l), k, got, errno, wantImages, wantErrno)
		}
	}
}

// checkEnds checks Ends of a list for keys. It returns the error.
func checkEnds(t *testing.T, l []api.Item, keys []api.Key) api.Errno {
	t.Helper()
	want, wantErrno := endsOf(l, keys)
	got, errno := Ends(l, keys)
	if errno != wantErrno || !slices.Equal(got, want) {
		t.Fatalf("%s: Ends for %x = %x, %v, want %x, %v", text(l), keys[:min(len(keys), 8)], got, errno, want, wantErrno)
	}
	return errno
}

// The items of a list: one of each kind, without and with something in the fields that it uses.
var (
	anEmpty     = api.Item{Kind: 0}
	aFull       = api.Item{Kind: 1, Leaf: api.Leaf{Key: plain.Filled(0x5a), Value: api.Digest(plain.Filled(0xc3))}}
	zeroFull    = api.Item{Kind: 1}
	anInner     = api.Item{Kind: 2}
	aSibling    = api.Item{Kind: 3, Digest: api.Digest(plain.Filled(0x77))}
	zeroSibling = api.Item{Kind: 3}
)

// shapes returns all well-formed lists with a number of ends, each of which is one of some items.
func shapes(ends int, items []api.Item) [][]api.Item {
	var l [][]api.Item
	if ends == 1 {
		for _, x := range items {
			l = append(l, []api.Item{x})
		}
	}
	for left := 1; left < ends; left++ {
		for _, a := range shapes(left, items) {
			for _, b := range shapes(ends-left, items) {
				l = append(l, slices.Concat([]api.Item{anInner}, a, b))
			}
		}
	}
	return l
}

// chain returns the list with Inner items at the first depths on the way of a key, as many as n, an end, and other items beside the way.
func chain(k api.Key, n int, end api.Item, beside func(depth int) api.Item) []api.Item {
	digits := strings.Repeat(plain.Text(k), 1+n/256)
	var front, back []api.Item
	for d := range n {
		front = append(front, anInner)
		if digits[d] == '1' {
			front = append(front, beside(d))
		} else {
			back = append(back, beside(d))
		}
	}
	slices.Reverse(back)
	return slices.Concat(front, []api.Item{end}, back)
}

// complete returns the items below a way that all end at a depth, at different leaves.
func complete(way string, depth int) []api.Item {
	if len(way) == depth {
		return []api.Item{{Kind: 1, Leaf: api.Leaf{Key: keyOf(way), Value: api.Digest(keyOf("1" + way))}}}
	}
	return slices.Concat([]api.Item{anInner}, complete(way+"0", depth), complete(way+"1", depth))
}

// keyOf returns the key that begins with some digits, with zeros behind them.
func keyOf(digits string) api.Key {
	var k api.Key
	for i, c := range digits[:min(len(digits), 256)] {
		if c == '1' {
			k[i/8] |= 128 >> (i % 8)
		}
	}
	return k
}

// filledKey returns the key that begins with some digits, with ones behind them.
func filledKey(digits string) api.Key {
	return keyOf(digits + strings.Repeat("1", 256-len(digits)))
}

// keysAt returns, for each end of a well-formed list, the least key whose way ends there, and the greatest one if there are several, in ascending order.
func keysAt(l []api.Item) []api.Key {
	all, _ := places(l)
	var keys []api.Key
	for _, x := range all {
		if x.item.Kind == 2 {
			continue
		}
		keys = append(keys, keyOf(x.way))
		if len(x.way) < 256 {
			keys = append(keys, filledKey(x.way))
		}
	}
	return keys
}

// subsets returns the lists of some of the elements of a list, for all sets of them.
func subsets[T any](l []T) [][]T {
	all := make([][]T, 1<<len(l))
	for set := range all {
		for i, x := range l {
			if set>>i&1 == 1 {
				all[set] = append(all[set], x)
			}
		}
	}
	return all
}

// wrongKeys returns lists of keys that Keys rejects, with the errors, in the order of the chapter.
func wrongKeys() map[api.Errno][][]api.Key {
	a, b, c := api.Key{}, api.Key{128}, api.Key{128, 31: 1}
	return map[api.Errno][][]api.Key{
		api.ErrNone:      {nil, {}, many(5)[:0]},
		api.ErrLimit:     {many(65536), make([]api.Key, 65536), make([]api.Key, 70000), append([]api.Key{b}, many(65535)...)},
		api.ErrDuplicate: {{a, a}, {b, b}, {a, b, b}, {a, b, b, a}, {a, a, c, b}, append(many(65534), many(65534)[65533])},
		api.ErrOrder:     {{b, a}, {c, b}, {a, c, b}, {b, a, a}, {a, c, b, b}, append(many(65534), a)},
	}
}

// many returns different keys in ascending order.
func many(n int) []api.Key {
	l := make([]api.Key, n)
	for i := range l {
		l[i] = api.Key{byte(i >> 16), byte(i >> 8), byte(i), 31: byte(i)}
	}
	return l
}
