package key

import (
	"bytes"
	"encoding/hex"
	"fmt"
	"math/rand"
	"slices"
	"strings"
	"testing"

	"sparsetree/api"
	"sparsetree/bits"
)

// filled returns n bytes with the value x.
func filled(n int, x byte) []byte { return bytes.Repeat([]byte{x}, n) }

// numbers returns n bytes that count from first on.
func numbers(n int, first byte) []byte {
	b := make([]byte, n)
	for i := range b {
		b[i] = first + byte(i)
	}
	return b
}

// mixed returns a key with bytes of a source that is the same in each run.
func mixed(r *rand.Rand) api.Key {
	var k api.Key
	r.Read(k[:])
	return k
}

// beginning returns a key with the first bits of prefix, bit i, and other bits that are mixed.
func beginning(r *rand.Rand, prefix api.Key, i, bit int) api.Key {
	k := mixed(r)
	for j := range i {
		if bits.Bit(k, j) != bits.Bit(prefix, j) {
			k = bits.Flip(k, j)
		}
	}
	if bits.Bit(k, i) != bit {
		k = bits.Flip(k, i)
	}
	return k
}

// wantCompare is the order of keys as chapter 1 defines it.
func wantCompare(a, b api.Key) int { return bytes.Compare(a[:], b[:]) }

// P2.1
func TestOfReturnsTheBytes(t *testing.T) {
	for _, b := range [][]byte{make([]byte, 32), filled(32, 255), numbers(32, 0), numbers(32, 200)} {
		before := bytes.Clone(b)
		k, e := Of(b)
		if e != api.OK || !bytes.Equal(k[:], b) {
			t.Errorf("Of(%x) = %x, %v", b, k, e)
		}
		if !bytes.Equal(b, before) {
			t.Errorf("Of changed %x to %x", before, b)
		}
	}
}

// P2.1
func TestOfRejectsOtherLengths(t *testing.T) {
	for _, n := range []int{0, 1, 2, 8, 16, 30, 31, 33, 34, 63, 64, 65, 255, 256, 288, 1 << 16, 1<<16 + 32} {
		if k, e := Of(numbers(n, 1)); e != api.ErrKey || k != (api.Key{}) {
			t.Errorf("Of of %d bytes = %x, %v", n, k, e)
		}
	}
	if k, e := Of(nil); e != api.ErrKey || k != (api.Key{}) {
		t.Errorf("Of(nil) = %x, %v", k, e)
	}
}

// P2.1 and rule 4 of the document: the capacity does not matter.
func TestOfDoesNotReadBehindTheSlice(t *testing.T) {
	b := numbers(40, 1)
	if k, e := Of(b[:32]); e != api.OK || !bytes.Equal(k[:], b[:32]) {
		t.Errorf("Of = %x, %v", k, e)
	}
	if k, e := Of(b[:31]); e != api.ErrKey || k != (api.Key{}) {
		t.Errorf("Of = %x, %v", k, e)
	}
}

// P2.2
func TestHexOfEachByte(t *testing.T) {
	for x := range 256 {
		if got, want := Hex([]byte{byte(x)}), fmt.Sprintf("%02x", x); got != want {
			t.Errorf("Hex(%d) = %q, want %q", x, got, want)
		}
	}
}

// P2.2
func TestHexKeepsTheOrder(t *testing.T) {
	for _, b := range [][]byte{nil, {}, {0}, {0, 0}, {1, 171}, {171, 1}, {255, 0, 16}, numbers(256, 0), numbers(1000, 77)} {
		if got, want := Hex(b), hex.EncodeToString(b); got != want {
			t.Errorf("Hex(%x) = %q", b, got)
		}
	}
}

// P2.2
func TestParseOfSomeTexts(t *testing.T) {
	for s, want := range map[string][]byte{
		"": {}, "00": {0}, "0000": {0, 0}, "01ab": {1, 171}, "ab01": {171, 1}, "ff": {255}, "f0": {240}, "0f": {15},
		"0123456789abcdef": {0x01, 0x23, 0x45, 0x67, 0x89, 0xab, 0xcd, 0xef},
	} {
		if b, e := Parse(s); e != api.OK || !bytes.Equal(b, want) {
			t.Errorf("Parse(%q) = %x, %v", s, b, e)
		}
	}
}

// P2.2: the digits are tried as both digits of a byte, and in each place of a longer text.
func TestParseAcceptsTheDigitsOnly(t *testing.T) {
	const base = "0123456789abcdef"
	for c := range 256 {
		d := strings.IndexByte(base, byte(c))
		for i := range 6 {
			text := []byte("123456")
			text[i] = byte(c)
			b, e := Parse(string(text))
			if d < 0 {
				if e != api.ErrSyntax || len(b) != 0 {
					t.Errorf("Parse(%q) = %x, %v", text, b, e)
				}
				continue
			}
			want, err := hex.DecodeString(string(text))
			if err != nil || e != api.OK || !bytes.Equal(b, want) {
				t.Errorf("Parse(%q) = %x, %v", text, b, e)
			}
		}
	}
}

// P2.2: runes of several bytes are no digits, though the low byte of some of them is that of one.
func TestParseRejectsOtherTexts(t *testing.T) {
	for _, s := range []string{
		"0", "a", "123", "01a", "00000", strings.Repeat("0", 63), "g", "0g", "g0", "AB", "aB", "Ab", "0F", "F0", "01AB",
		" ", "  ", "00 ", " 00", "0 ", "01 ab", "01\n", "0x", "0x01", "-1", "+1", "1_", "01,02", "\x00\x00", "0\x00",
		"\u0161", "\u0130", "\u0166\u0139", "0\u0161a", "00\u0161", "\uff10", "\uff10\uff11", "\u0660\u0661", "\u00e9",
		"\U00010030", "\U00010061a0", "\ufffd", "\ufffd0", "\xff", "\xff\xff", "0\xff", "\xb0\xb1", "00\xe1\xe2", "=07", "z0",
		"/0", ":0", "`0", "@0", "0/", "0:", "0`", "0g0g",
	} {
		if b, e := Parse(s); e != api.ErrSyntax || len(b) != 0 {
			t.Errorf("Parse(%q) = %x, %v", s, b, e)
		}
	}
}

// P2.2 and rule 4 of the document: the results of two calls share no memory.
func TestParseReturnsNewBytes(t *testing.T) {
	first, _ := Parse("01ab")
	first[0] = 9
	if b, e := Parse("01ab"); e != api.OK || !bytes.Equal(b, []byte{1, 171}) {
		t.Errorf("Parse = %x, %v", b, e)
	}
}

// P2.3
func TestCheckOfSomeLists(t *testing.T) {
	a, b, c, d := api.Key{}, api.Key{31: 1}, api.Key{0: 1}, api.Key{0: 200, 31: 7}
	for i, x := range []struct {
		l    []api.Key
		want api.Errno
	}{
		{nil, api.OK},
		{[]api.Key{}, api.OK},
		{[]api.Key{a}, api.OK},
		{[]api.Key{d}, api.OK},
		{[]api.Key{a, b}, api.OK},
		{[]api.Key{a, b, c, d}, api.OK},
		{[]api.Key{a, d}, api.OK},
		{[]api.Key{a, a}, api.ErrDuplicate},
		{[]api.Key{d, d, d}, api.ErrDuplicate},
		{[]api.Key{b, a}, api.ErrOrder},
		{[]api.Key{d, c}, api.ErrOrder},
		{[]api.Key{a, c, b}, api.ErrOrder},
		{[]api.Key{a, b, b, c}, api.ErrDuplicate},
		{[]api.Key{a, b, c, c}, api.ErrDuplicate},
		{[]api.Key{a, b, d, c}, api.ErrOrder},
		{[]api.Key{b, a, a}, api.ErrOrder},
		{[]api.Key{a, a, d, b}, api.ErrDuplicate},
		{[]api.Key{c, d, d, a, b, b}, api.ErrDuplicate},
		{[]api.Key{c, d, b, b, d}, api.ErrOrder},
		// A key is compared with the one before it: an equal one farther before is out of order.
		{[]api.Key{a, b, a}, api.ErrOrder},
		{[]api.Key{b, c, d, b}, api.ErrOrder},
	} {
		if got := Check(x.l); got != x.want {
			t.Errorf("list %d: Check = %v, want %v", i, got, x.want)
		}
	}
}

// P2.3: keys that differ in one bit, at every place of a key.
func TestCheckFindsEachBit(t *testing.T) {
	r := rand.New(rand.NewSource(1))
	for i := range 256 {
		low := mixed(r)
		if bits.Bit(low, i) == 1 {
			low = bits.Flip(low, i)
		}
		high := bits.Flip(low, i)
		if got := Check([]api.Key{low, high}); got != api.OK {
			t.Errorf("bit %d ascending: %v", i, got)
		}
		if got := Check([]api.Key{high, low}); got != api.ErrOrder {
			t.Errorf("bit %d descending: %v", i, got)
		}
	}
}

// P2.3: one wrong key at every place of a longer list.
func TestCheckFindsEachPlace(t *testing.T) {
	const n = 50
	for i := range n {
		l := make([]api.Key, n)
		for j := range l {
			l[j] = api.Key{10: byte(j + 1)}
		}
		if got := Check(l); got != api.OK {
			t.Fatal(got)
		}
		if i == 0 {
			continue
		}
		l[i] = l[i-1]
		if got := Check(l); got != api.ErrDuplicate {
			t.Errorf("key %d again: %v", i, got)
		}
		l[i] = api.Key{}
		if got := Check(l); got != api.ErrOrder {
			t.Errorf("key %d before the others: %v", i, got)
		}
	}
}

// lists are lists to be sorted.
func lists() [][]api.Key {
	r := rand.New(rand.NewSource(2))
	l := [][]api.Key{nil, {}, {{}}, {{7}, {7}}, {{1}, {2}, {3}}, {{3}, {2}, {1}}, {{3}, {1}, {3}},
		{{31: 1}, {0: 255}, {0: 128}, {0: 127}, {}, {31: 255}}}
	for n := range 40 {
		var many []api.Key
		for range n {
			k := mixed(r)
			for range 1 + r.Intn(3) {
				many = append(many, k)
			}
			many = append(many, bits.Flip(k, 255), bits.Flip(k, r.Intn(256)))
		}
		r.Shuffle(len(many), func(i, j int) { many[i], many[j] = many[j], many[i] })
		l = append(l, many)
	}
	return l
}

// P2.4
func TestSortReturnsTheDifferentKeysInOrder(t *testing.T) {
	for _, l := range lists() {
		before := slices.Clone(l)
		got := Sort(l)
		in := map[api.Key]bool{}
		for _, k := range l {
			in[k] = true
		}
		if len(got) != len(in) {
			t.Fatalf("Sort of %d keys, %d of them different, has %d", len(l), len(in), len(got))
		}
		for i, k := range got {
			if !in[k] {
				t.Fatalf("Sort has the key %x in addition", k)
			}
			if i > 0 && wantCompare(got[i-1], k) >= 0 {
				t.Fatalf("Sort has %x before %x", got[i-1], k)
			}
		}
		if !slices.Equal(l, before) {
			t.Fatal("Sort changed its argument")
		}
	}
}

// P2.4: the result is new, also if the list was in order already.
func TestSortIsNewlyAllocated(t *testing.T) {
	room := []api.Key{{1}, {2}, {3}, {4}, {5}}
	before := slices.Clone(room)
	for n := range 4 {
		l := room[:n]
		got := Sort(l)
		again := Sort(l)
		for i := range got {
			got[i] = api.Key{99}
		}
		_ = append(got, api.Key{98})
		if !slices.Equal(room, before) {
			t.Fatalf("%d keys: the result shares memory with the list", n)
		}
		if !slices.Equal(again, before[:n]) {
			t.Fatalf("%d keys: two results share memory", n)
		}
	}
}

// P2.5: every bit, and every number of keys on both sides.
func TestSplitOfEachBit(t *testing.T) {
	r := rand.New(rand.NewSource(3))
	for i := range 256 {
		prefix := mixed(r)
		for zeros := range 6 {
			for ones := range 6 {
				if i > 252 && max(zeros, ones) > 1<<(255-i) {
					continue // there are not so many keys
				}
				l := side(r, prefix, i, 0, zeros)
				l = append(l, side(r, prefix, i, 1, ones)...)
				if Check(l) != api.OK {
					t.Fatalf("bit %d: the list is not in order", i)
				}
				if got := Split(l, i); got != zeros {
					t.Errorf("bit %d: Split = %d, want %d of %d", i, got, zeros, len(l))
				}
			}
		}
	}
}

// side returns n different keys in order that begin with the first i bits of prefix, and with this bit behind them.
func side(r *rand.Rand, prefix api.Key, i, bit, n int) []api.Key {
	in := map[api.Key]bool{}
	var l []api.Key
	for len(l) < n {
		if k := beginning(r, prefix, i, bit); !in[k] {
			in[k] = true
			l = append(l, k)
		}
	}
	slices.SortFunc(l, wantCompare)
	return l
}

// P2.5
func TestSplitAtTheEdges(t *testing.T) {
	var full api.Key
	copy(full[:], filled(32, 255))
	last := bits.Flip(full, 255)
	for i, x := range []struct {
		l         []api.Key
		bit, want int
	}{
		{nil, 0, 0},
		{[]api.Key{}, 255, 0},
		{[]api.Key{}, 100, 0},
		{[]api.Key{{}}, 0, 1},
		{[]api.Key{{}}, 255, 1},
		{[]api.Key{full}, 0, 0},
		{[]api.Key{full}, 255, 0},
		{[]api.Key{{}, full}, 0, 1},
		{[]api.Key{last, full}, 255, 1},
		{[]api.Key{last}, 255, 1},
		{[]api.Key{{}, {31: 1}}, 255, 1},
		{[]api.Key{{}, {31: 1}}, 0, 2},
		{[]api.Key{{127}, {128}}, 0, 1},
		{[]api.Key{{128}, {160}, {192}}, 1, 2},
		{[]api.Key{{128}, {160}}, 2, 1},
		{[]api.Key{{0: 5, 1: 127}, {0: 5, 1: 128}, {0: 5, 1: 255}}, 8, 1},
	} {
		if got := Split(x.l, x.bit); got != x.want {
			t.Errorf("list %d: Split = %d, want %d", i, got, x.want)
		}
	}
}

// P2.5: the list is searched, and not changed.
func TestSplitOfManyKeys(t *testing.T) {
	for _, zeros := range []int{0, 1, 2, 255, 256, 30000, 65534, 65535} {
		l := make([]api.Key, api.MaxKeys)
		for i := range l {
			l[i] = api.Key{0: 0x40, 20: byte(i >> 8), 21: byte(i)}
			if i >= zeros {
				l[i][0] |= 0x20
			}
		}
		before := slices.Clone(l)
		if got := Split(l, 2); got != zeros {
			t.Errorf("Split = %d, want %d", got, zeros)
		}
		if !slices.Equal(l, before) {
			t.Error("Split changed its argument")
		}
	}
}

// P2.6
func TestParseInvertsHex(t *testing.T) {
	r := rand.New(rand.NewSource(4))
	for n := range 100 {
		b := make([]byte, n)
		r.Read(b)
		got, e := Parse(Hex(b))
		if e != api.OK || !bytes.Equal(got, b) {
			t.Errorf("Parse(Hex(%x)) = %x, %v", b, got, e)
		}
	}
	if got, e := Parse(Hex(numbers(256, 0))); e != api.OK || !bytes.Equal(got, numbers(256, 0)) {
		t.Errorf("Parse(Hex) of all bytes = %x, %v", got, e)
	}
}

// P2.6
func TestCheckAcceptsWhatSortReturns(t *testing.T) {
	for _, l := range lists() {
		got := Sort(l)
		if e := Check(got); e != api.OK {
			t.Fatalf("Check(Sort) = %v", e)
		}
		if !slices.Equal(Sort(got), got) {
			t.Fatal("sorting twice differs from sorting once")
		}
	}
}

func TestExamplesOfTheChapter(t *testing.T) {
	if got := Hex([]byte{1, 171}); got != "01ab" {
		t.Error(got)
	}
	if got := Sort([]api.Key{{3}, {1}, {3}}); !slices.Equal(got, []api.Key{{1}, {3}}) {
		t.Error(got)
	}
}
