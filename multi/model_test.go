package multi

import (
	"bytes"
	"crypto/sha256"
	"fmt"
	"slices"
	"strings"
	"testing"

	"sparsetree/api"
	"sparsetree/digest"
	"sparsetree/internal/plain"
)

// sumOf returns the function that computes digests of a number of bits, without a hasher.
func sumOf(bits int) plain.Sum {
	return func(b []byte) api.Digest { return digest.Cut(sha256.Sum256(b), bits) }
}

// keysOf tells what Keys returns, as the chapter says it.
func keysOf(keys []api.Key) api.Errno {
	if len(keys) == 0 {
		return 10
	}
	if len(keys) > 65535 {
		return 11
	}
	for i := range keys[1:] {
		if c := bytes.Compare(keys[i][:], keys[i+1][:]); c == 0 {
			return 9
		} else if c > 0 {
			return 8
		}
	}
	return 0
}

// wayTo returns the places on the way of a key.
func wayTo(l []plain.Place, k api.Key) []plain.Place {
	digits := plain.Text(k)
	var way []plain.Place
	for _, x := range l {
		if strings.HasPrefix(digits, x.Way) {
			way = append(way, x)
		}
	}
	return way
}

// endsOf tells what Ends of a list returns, as the chapter says it.
func endsOf(l []api.Item, keys []api.Key) ([]End, api.Errno) {
	if errno := plain.FormOf(l); errno != 0 {
		return nil, errno
	}
	if errno := keysOf(keys); errno != 0 {
		return nil, errno
	}
	all, _ := plain.Places(l)
	var ends []End
	reached := map[string]bool{}
	for _, k := range keys {
		way := wayTo(all, k)
		for _, x := range way {
			reached[x.Way] = true
		}
		last := way[len(way)-1]
		if last.Item.Kind == 3 {
			return nil, 12
		}
		ends = append(ends, End{last.Item, len(last.Way)})
	}
	for _, x := range all {
		if x.Item.Kind == 2 && !reached[x.Way] {
			return nil, 12
		}
	}
	return ends, 0
}

// digestsOf returns the digests of the subtrees of a well-formed list, and the preimages of those that have one, by their ways.
func digestsOf(bits int, l []plain.Place) (map[string]api.Digest, map[string][]byte) {
	sums, images := map[string]api.Digest{}, map[string][]byte{}
	for _, x := range slices.Backward(l) {
		switch x.Item.Kind {
		case 0:
			images[x.Way] = []byte{3}
		case 1:
			images[x.Way] = slices.Concat([]byte{0}, x.Item.Leaf.Key[:], x.Item.Leaf.Value[:])
		case 2:
			left, right := sums[x.Way+"0"], sums[x.Way+"1"]
			images[x.Way] = slices.Concat([]byte{1}, left[:], right[:])
		case 3:
			sums[x.Way] = x.Item.Digest
			continue
		}
		sums[x.Way] = sumOf(bits)(images[x.Way])
	}
	return sums, images
}

// text describes a list of items.
func text(l []api.Item) string {
	var b strings.Builder
	for _, x := range l[:min(len(l), 12)] {
		fmt.Fprintf(&b, "%d", x.Kind)
		if x.Digest != (api.Digest{}) {
			fmt.Fprintf(&b, " digest %x", x.Digest)
		}
		if x.Leaf != (api.Leaf{}) {
			fmt.Fprintf(&b, " leaf %x", x.Leaf)
		}
		b.WriteString(", ")
	}
	return fmt.Sprintf("%s%d items", b.String(), len(l))
}

// checkList checks the functions that read a list: Ends for each of some lists of keys, and Preimages for each of some keys.
func checkList(t *testing.T, h *digest.Hasher, l []api.Item, lists [][]api.Key, keys []api.Key) {
	t.Helper()
	want := plain.FormOf(l)
	if errno := Check(l); errno != want {
		t.Fatalf("%s: Check = %v, want %v", text(l), errno, want)
	}
	var all []plain.Place
	if want == 0 {
		all, _ = plain.Places(l)
	}
	sums, images := digestsOf(h.Bits(), all)
	if d, errno := Root(h, l); d != sums[""] || errno != want {
		t.Fatalf("%d bits, %s: Root = %x, %v, want %x, %v", h.Bits(), text(l), d, errno, sums[""], want)
	}
	for _, list := range lists {
		checkEnds(t, l, list)
	}
	for _, k := range keys {
		wantImages, wantErrno := [][]byte(nil), want
		for _, x := range wayTo(all, k) {
			wantImages = append(wantImages, images[x.Way])
		}
		if n := len(wantImages); n > 0 && wantImages[n-1] == nil {
			wantImages, wantErrno = nil, 12
		}
		got, errno := Preimages(h, l, k)
		if errno != wantErrno || !slices.EqualFunc(got, wantImages, bytes.Equal) {
			t.Fatalf("%d bits, %s: Preimages for %x = %x, %v, want %x, %v", h.Bits(), text(l), k, got, errno, wantImages, wantErrno)
		}
	}
}

// checkEnds checks Ends of a list for keys. It returns the error.
func checkEnds(t *testing.T, l []api.Item, keys []api.Key) api.Errno {
	t.Helper()
	want, wantErrno := endsOf(l, keys)
	got, errno := Ends(l, keys)
	if errno != wantErrno || !slices.Equal(got, want) {
		t.Fatalf("%s: Ends for %x = %x, %v, want %x, %v", text(l), keys[:min(len(keys), 8)], got, errno, want, wantErrno)
	}
	return errno
}

// The items of a list: one of each kind, without and with something in the fields that it uses.
var (
	anEmpty     = api.Item{Kind: 0}
	aFull       = plain.FullItem()
	zeroFull    = api.Item{Kind: 1}
	anInner     = api.Item{Kind: 2}
	aSibling    = plain.SiblingItem()
	zeroSibling = api.Item{Kind: 3}
)

// filledKey returns the key that begins with some digits, with ones behind them.
func filledKey(digits string) api.Key {
	return plain.KeyOf(digits + strings.Repeat("1", 256-len(digits)))
}

// keysAt returns, for each end of a well-formed list, the least key whose way ends there, and the greatest one if there are several, in ascending order.
func keysAt(l []api.Item) []api.Key {
	all, _ := plain.Places(l)
	var keys []api.Key
	for _, x := range all {
		if x.Item.Kind == 2 {
			continue
		}
		keys = append(keys, plain.KeyOf(x.Way))
		if len(x.Way) < 256 {
			keys = append(keys, filledKey(x.Way))
		}
	}
	return keys
}

// subsets returns the lists of some of the elements of a list, for all sets of them.
func subsets[T any](l []T) [][]T {
	all := make([][]T, 1<<len(l))
	for set := range all {
		for i, x := range l {
			if set>>i&1 == 1 {
				all[set] = append(all[set], x)
			}
		}
	}
	return all
}

// wrongKeys returns lists of keys that Keys rejects, with the errors, in the order of the chapter.
func wrongKeys() map[api.Errno][][]api.Key {
	a, b, c := api.Key{}, api.Key{128}, api.Key{128, 31: 1}
	return map[api.Errno][][]api.Key{
		api.ErrNone:      {nil, {}, many(5)[:0]},
		api.ErrLimit:     {many(65536), make([]api.Key, 65536), make([]api.Key, 70000), append([]api.Key{b}, many(65535)...)},
		api.ErrDuplicate: {{a, a}, {b, b}, {a, b, b}, {a, b, b, a}, {a, a, c, b}, append(many(65534), many(65534)[65533])},
		api.ErrOrder:     {{b, a}, {c, b}, {a, c, b}, {b, a, a}, {a, c, b, b}, append(many(65534), a)},
	}
}

// many returns different keys in ascending order.
func many(n int) []api.Key {
	l := make([]api.Key, n)
	for i := range l {
		l[i] = api.Key{byte(i >> 16), byte(i >> 8), byte(i), 31: byte(i)}
	}
	return l
}
