package bits

import (
	"bytes"
	"math"
	"math/big"
	"slices"
	"testing"

	"sparsetree/api"
)

// ints are numbers of bits and lengths: all that a key has, and others around and far from them.
func ints() []int {
	l := []int{math.MinInt, math.MinInt + 1, math.MinInt32, -257, -256, -255, -8, -2, -1,
		256, 257, 258, 263, 264, 511, 512, math.MaxInt32, 1 << 32, 1<<32 + 5, 1 << 40, math.MaxInt - 1, math.MaxInt}
	for i := range 256 {
		l = append(l, i)
	}
	return l
}

// filled returns the key all of whose bytes are b.
func filled(b byte) api.Key {
	var k api.Key
	for i := range k {
		k[i] = b
	}
	return k
}

// keys are the least and the greatest key, mixed ones, and every key with a single bit.
func keys() []api.Key {
	l := []api.Key{{}, filled(0xff), filled(0xaa), filled(0x55), filled(1), filled(0x80),
		{160}, {128}, {0x81, 0x40, 31: 3}, {0x7f}, {0x80}, {255}, {127, 255}, {1: 1}, {2: 255}}
	x := uint32(1)
	for range 20 {
		var k api.Key
		for i := range k {
			x = x*1664525 + 1013904223
			k[i] = byte(x >> 24)
		}
		l = append(l, k)
	}
	for i := range 256 {
		var k api.Key
		k[i/8] = 1 << (7 - i%8)
		l = append(l, k)
	}
	return l
}

// number returns the key as a number, whose bit 255 is bit 0 of the key.
func number(k api.Key) *big.Int { return new(big.Int).SetBytes(k[:]) }

// fromNumber is the inverse of number.
func fromNumber(n *big.Int) api.Key {
	var k api.Key
	n.FillBytes(k[:])
	return k
}

// wantLimit limits n to the range from 0 to 256.
func wantLimit(n int) int {
	switch {
	case n < 0:
		return 0
	case n > 256:
		return 256
	}
	return n
}

// P1.1
func TestBitReturnsEveryBitAndMinusOneOutside(t *testing.T) {
	for _, k := range keys() {
		n := number(k)
		for _, i := range ints() {
			want := -1
			if i >= 0 && i <= 255 {
				want = int(n.Bit(255 - i))
			}
			if got := Bit(k, i); got != want {
				t.Fatalf("Bit(%x, %d) = %d, want %d", k, i, got, want)
			}
		}
	}
}

// P1.1
func TestBitNumbersFromTheMostSignificantBitOn(t *testing.T) {
	k := api.Key{0: 0x81, 1: 0x40, 31: 1}
	for _, c := range []struct{ i, want int }{
		{0, 1}, {1, 0}, {6, 0}, {7, 1}, {8, 0}, {9, 1}, {10, 0}, {247, 0}, {254, 0}, {255, 1},
		{-1, -1}, {256, -1}, {math.MinInt, -1}, {math.MaxInt, -1},
	} {
		if got := Bit(k, c.i); got != c.want {
			t.Errorf("Bit(%d) = %d, want %d", c.i, got, c.want)
		}
	}
}

// P1.1
func TestFlipInvertsOneBitOrNone(t *testing.T) {
	for _, k := range keys() {
		for _, i := range ints() {
			want := k
			if i >= 0 && i <= 255 {
				n := number(k)
				want = fromNumber(n.SetBit(n, 255-i, 1-n.Bit(255-i)))
			}
			got := Flip(k, i)
			if got != want {
				t.Fatalf("Flip(%x, %d) = %x, want %x", k, i, got, want)
			}
			if Flip(got, i) != k {
				t.Fatalf("Flip(%x, %d) twice is not the key", k, i)
			}
		}
	}
}

// P1.2
func TestCommonOfEqualKeysIs256(t *testing.T) {
	for _, k := range keys() {
		if got := Common(k, k); got != 256 {
			t.Fatalf("Common(%x, itself) = %d", k, got)
		}
	}
}

// P1.2: bits behind the first one that differs do not matter.
func TestCommonIsTheFirstBitThatDiffers(t *testing.T) {
	for _, k := range keys()[:35] {
		for i := range 256 {
			other := Flip(k, i)
			if got := Common(k, other); got != i {
				t.Fatalf("Common(%x, %x) = %d, want %d", k, other, got, i)
			}
			for j := i + 1; j < 256; j += 11 {
				other = Flip(other, j)
			}
			if a, b := Common(k, other), Common(other, k); a != i || b != i {
				t.Fatalf("Common(%x, %x) = %d and %d, want %d", k, other, a, b, i)
			}
		}
	}
}

// P1.2
func TestCommonOfAllPairs(t *testing.T) {
	l := keys()
	for _, a := range l {
		for _, b := range l {
			x := new(big.Int).Xor(number(a), number(b))
			if got, want := Common(a, b), 256-x.BitLen(); got != want {
				t.Fatalf("Common(%x, %x) = %d, want %d", a, b, got, want)
			}
		}
	}
}

// P1.3
func TestPrefixKeepsTheFirstBits(t *testing.T) {
	for _, k := range keys() {
		for _, n := range ints() {
			rest := uint(256 - wantLimit(n))
			x := number(k)
			want := fromNumber(x.Lsh(x.Rsh(x, rest), rest))
			if got := Prefix(k, n); got != want {
				t.Fatalf("Prefix(%x, %d) = %x, want %x", k, n, got, want)
			}
		}
	}
}

// P1.3
func TestPrefixAtItsLimits(t *testing.T) {
	full := filled(0xff)
	for _, n := range []int{math.MinInt, -1, 0} {
		if got := Prefix(full, n); got != (api.Key{}) {
			t.Errorf("Prefix(%d) = %x", n, got)
		}
	}
	for _, n := range []int{256, 257, math.MaxInt} {
		if got := Prefix(full, n); got != full {
			t.Errorf("Prefix(%d) = %x", n, got)
		}
	}
	if got := Prefix(full, 255); got != Flip(full, 255) {
		t.Errorf("Prefix(255) = %x", got)
	}
	if got := Prefix(full, 12); got != (api.Key{0xff, 0xf0}) {
		t.Errorf("Prefix(12) = %x", got)
	}
}

// P1.4
func TestCompareIsTheOrderOfTheBytes(t *testing.T) {
	l := keys()
	for _, a := range l {
		for _, b := range l {
			if got, want := Compare(a, b), bytes.Compare(a[:], b[:]); got != want {
				t.Fatalf("Compare(%x, %x) = %d, want %d", a, b, got, want)
			}
		}
	}
}

// P1.4: the first bytes count more, and bytes have no sign.
func TestCompareOfSomePairs(t *testing.T) {
	for _, c := range []struct {
		a, b api.Key
		want int
	}{
		{api.Key{}, api.Key{}, 0},
		{filled(255), filled(255), 0},
		{api.Key{128}, api.Key{160}, -1},
		{api.Key{160}, api.Key{128}, 1},
		{api.Key{127}, api.Key{128}, -1},
		{api.Key{1}, api.Key{0, 255}, 1},
		{api.Key{}, api.Key{31: 1}, -1},
		{api.Key{31: 255}, api.Key{30: 1}, -1},
		{filled(255), api.Key{}, 1},
	} {
		if got := Compare(c.a, c.b); got != c.want {
			t.Errorf("Compare(%x, %x) = %d, want %d", c.a, c.b, got, c.want)
		}
	}
}

// P1.5
func TestDirectionsAreTheFirstBits(t *testing.T) {
	for _, k := range keys() {
		x := number(k)
		for _, n := range ints() {
			got := Directions(k, n)
			if len(got) != wantLimit(n) {
				t.Fatalf("Directions(%x, %d) has %d bits", k, n, len(got))
			}
			for i, b := range got {
				if b != int(x.Bit(255-i)) {
					t.Fatalf("Directions(%x, %d)[%d] = %d", k, n, i, b)
				}
			}
		}
	}
}

// P1.5 and rule 4 of the document: the results of two calls share no memory.
func TestDirectionsAreNewEachTime(t *testing.T) {
	k := api.Key{160}
	first := Directions(k, 4)
	first[0] = 7
	if got := Directions(k, 4); !slices.Equal(got, []int{1, 0, 1, 0}) {
		t.Error(got)
	}
}

// P1.6
func TestKeysDifferBehindWhatTheyHaveInCommon(t *testing.T) {
	l := keys()
	for _, a := range l {
		for _, b := range l {
			if a == b {
				continue
			}
			n := Common(a, b)
			x, y := Bit(a, n), Bit(b, n)
			if x+y != 1 || Prefix(a, n) != Prefix(b, n) || !slices.Equal(Directions(a, n), Directions(b, n)) {
				t.Fatalf("%x and %x have %d bits in common, and %d and %d there", a, b, n, x, y)
			}
			if got := Compare(a, b); got != x-y {
				t.Fatalf("Compare(%x, %x) = %d, but their bits are %d and %d", a, b, got, x, y)
			}
		}
	}
}

func TestExampleOfTheChapter(t *testing.T) {
	k := api.Key{160}
	if got := Directions(k, 4); !slices.Equal(got, []int{1, 0, 1, 0}) {
		t.Error("bits", got)
	}
	for i := 3; i < 256; i++ {
		if Bit(k, i) != 0 {
			t.Error("bit", i)
		}
	}
	if got := Common(k, api.Key{128}); got != 2 {
		t.Error("common", got)
	}
}
