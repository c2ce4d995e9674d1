package sha

import (
	"bytes"
	"crypto/sha256"
	"encoding/binary"
	"encoding/hex"
	"math"
	"math/big"
	"math/rand"
	"strings"
	"sync"
	"testing"

	"sparsetree/api"
)

// edges are numbers of bytes at which the number of blocks changes, and some around them.
var edges = []int{0, 1, 2, 31, 32, 54, 55, 56, 57, 62, 63, 64, 65, 118, 119, 120, 121, 127, 128, 129, 183, 184, 192}

// mixed returns n bytes of a source that is the same in each run.
func mixed(n int) []byte {
	b := make([]byte, n)
	rand.New(rand.NewSource(int64(n))).Read(b)
	return b
}

// filled returns n bytes with the value x.
func filled(n int, x byte) []byte { return bytes.Repeat([]byte{x}, n) }

// wantTail is what follows n bytes in the padded bytes, as chapter 4 defines them.
func wantTail(n int) []byte {
	tail := []byte{128}
	for (n+len(tail)+8)%64 != 0 {
		tail = append(tail, 0)
	}
	return binary.BigEndian.AppendUint64(tail, uint64(n)*8)
}

// checkPad checks the padded bytes of b.
func checkPad(t *testing.T, b, got []byte) {
	t.Helper()
	n, tail := len(b), wantTail(len(b))
	if len(got) != n+len(tail) {
		t.Errorf("Pad of %d bytes has %d bytes, want %d", n, len(got), n+len(tail))
		return
	}
	if !bytes.Equal(got[:n], b) {
		t.Errorf("Pad of %d bytes does not begin with them", n)
	}
	if !bytes.Equal(got[n:], tail) {
		t.Errorf("Pad of %d bytes ends with %x, want %x", n, got[n:], tail)
	}
}

// checkDigest checks that got is the digest of SHA-256 of b.
func checkDigest(t *testing.T, call string, got api.Digest, b []byte) {
	t.Helper()
	if want := api.Digest(sha256.Sum256(b)); got != want {
		t.Errorf("%s of %d bytes = %x, want %x", call, len(b), got, want)
	}
}

// P4.1
func TestPadOfEachLength(t *testing.T) {
	for n := range 700 {
		for _, b := range [][]byte{mixed(n), filled(n, 0), filled(n, 128), filled(n, 255)} {
			checkPad(t, b, Pad(b))
		}
	}
}

// P4.1
func TestPadOfNoBytes(t *testing.T) {
	want := append([]byte{128}, make([]byte, 63)...)
	for _, b := range [][]byte{nil, {}, mixed(100)[:0]} {
		if got := Pad(b); !bytes.Equal(got, want) {
			t.Errorf("Pad(%#v) = %x", b, got)
		}
	}
}

// P4.1: 55 bytes leave room in their block for the byte 128 and the number of bits, and 56 bytes do not.
func TestPadAtTheEndOfABlock(t *testing.T) {
	for n, size := range map[int]int{54: 64, 55: 64, 56: 128, 63: 128, 64: 128, 118: 128, 119: 128, 120: 192, 127: 192, 128: 192} {
		if got := Pad(mixed(n)); len(got) != size {
			t.Errorf("Pad of %d bytes has %d bytes, want %d", n, len(got), size)
		}
	}
	want := append(filled(55, 7), 128, 0, 0, 0, 0, 0, 0, 1, 184)
	if got := Pad(filled(55, 7)); !bytes.Equal(got, want) {
		t.Errorf("Pad of 55 bytes = %x, want %x", got, want)
	}
	want = append(append(append(filled(56, 7), 128), filled(69, 0)...), 1, 192)
	if got := Pad(filled(56, 7)); !bytes.Equal(got, want) {
		t.Errorf("Pad of 56 bytes = %x, want %x", got, want)
	}
}

// P4.1: the number of bits takes two bytes, three, and so on up to five.
func TestPadOfManyBytes(t *testing.T) {
	for _, n := range []int{8191, 8192, 1 << 16, 1<<21 - 1, 1 << 21, 1<<21 + 55, 1<<21 + 56, 1 << 29} {
		if n > 1<<22 && testing.Short() {
			continue
		}
		b := make([]byte, n)
		b[0], b[n/2], b[n-1] = 1, 2, 3
		checkPad(t, b, Pad(b))
	}
}

// P4.1: what Pad returned belongs to the caller, so that changing it has no effect on anything else.
func TestPadIsNewlyAllocated(t *testing.T) {
	for _, n := range edges {
		b := mixed(n)
		first, second := Pad(b), Pad(b)
		clear(first)
		clear(first[:cap(first)])
		if !bytes.Equal(b, mixed(n)) {
			t.Errorf("changing the padded bytes changed the %d bytes", n)
		}
		checkPad(t, b, second)
		checkPad(t, b, Pad(b))
		checkDigest(t, "Sum", Sum(b), b)
		clear(b)
		checkPad(t, mixed(n), second)
	}
}

// P4.1, P4.3 and rule 4 of the document: functions neither read nor write behind the length of a slice, and change no argument.
func TestArgumentsAreLeftAsTheyAre(t *testing.T) {
	for _, n := range edges {
		all := mixed(n + 200)
		b, rest := all[:n], all[n:n+100]
		l := [][]byte{b, nil, rest, b}
		checkPad(t, b, Pad(b))
		checkDigest(t, "Sum", Sum(b), bytes.Clone(b))
		checkDigest(t, "Join", Join(l...), bytes.Join(l, nil))
		if !bytes.Equal(all, mixed(n+200)) {
			t.Errorf("the bytes around %d bytes were changed", n)
		}
		if len(l) != 4 || len(l[0]) != n || l[1] != nil || len(l[2]) != 100 || len(l[3]) != n {
			t.Errorf("the list of pieces was changed")
		}
	}
}

// P4.1 and P4.3: bytes that are changed after a call have no effect on its result, and later calls see the change.
func TestBytesAreNotRetained(t *testing.T) {
	for _, n := range edges[1:] {
		b := mixed(n)
		sum := Sum(b)
		b[n-1] ^= 1
		checkDigest(t, "Sum before the change", sum, mixed(n))
		checkDigest(t, "Sum", Sum(b), b)
		checkDigest(t, "Join", Join(b), b)
		checkPad(t, b, Pad(b))
	}
}

// P4.2
func TestBlocksOfNumbersOutside(t *testing.T) {
	for _, n := range []int{-1, -2, -8, -9, -55, -63, -64, -65, -1 << 32, -1 << 60, math.MinInt, math.MinInt + 1, math.MinInt + 64,
		1<<60 + 1, 1<<60 + 2, 1<<60 + 64, 1 << 61, 1 << 62, math.MaxInt - 72, math.MaxInt - 8, math.MaxInt - 1, math.MaxInt} {
		if got := Blocks(n); got != 0 {
			t.Errorf("Blocks(%d) = %d", n, got)
		}
	}
}

// P4.2
func TestBlocksOfSomeNumbers(t *testing.T) {
	for n, want := range map[int]int{0: 1, 1: 1, 54: 1, 55: 1, 56: 2, 63: 2, 64: 2, 65: 2, 118: 2, 119: 2, 120: 3, 127: 3, 128: 3, 183: 3, 184: 4,
		1 << 20: 1<<14 + 1, 1<<60 - 64: 1 << 54, 1<<60 - 9: 1 << 54, 1<<60 - 8: 1<<54 + 1, 1<<60 - 1: 1<<54 + 1, 1 << 60: 1<<54 + 1} {
		if got := Blocks(n); got != want {
			t.Errorf("Blocks(%d) = %d, want %d", n, got, want)
		}
	}
}

// P4.2: the padded bytes are the bytes and at least 9 more, rounded up to whole blocks.
func TestBlocksAgreesWithTheDefinition(t *testing.T) {
	for _, first := range []int{0, 1<<16 - 100, 1<<31 - 100, 1<<32 - 100, 1<<53 - 100, 1<<60 - 199} {
		for n := first; n < first+200; n++ {
			want := new(big.Int).Add(big.NewInt(int64(n)), big.NewInt(9+63))
			want.Div(want, big.NewInt(64))
			if got := Blocks(n); big.NewInt(int64(got)).Cmp(want) != 0 {
				t.Errorf("Blocks(%d) = %d, want %v", n, got, want)
			}
		}
	}
}

// P4.2: Blocks counts what Pad returns.
func TestBlocksCountsThePaddedBytes(t *testing.T) {
	for n := range 1000 {
		if got, padded := Blocks(n), Pad(make([]byte, n)); 64*got != len(padded) {
			t.Errorf("Blocks(%d) = %d for %d padded bytes", n, got, len(padded))
		}
	}
}

// P4.3: the digests that are published with SHA-256.
func TestSumOfPublishedTexts(t *testing.T) {
	for _, c := range []struct{ text, digest string }{
		{"", "e3b0c44298fc1c149afbf4c8996fb92427ae41e4649b934ca495991b7852b855"},
		{"abc", "ba7816bf8f01cfea414140de5dae2223b00361a396177a9cb410ff61f20015ad"},
		{"abcdbcdecdefdefgefghfghighijhijkijkljklmklmnlmnomnopnopq", "248d6a61d20638b8e5c026930c3e6039a33ce45964ff2167f6ecedd419db06c1"},
		{"abcdefghbcdefghicdefghijdefghijkefghijklfghijklmghijklmnhijklmnoijklmnopjklmnopqklmnopqrlmnopqrsmnopqrstnopqrstu", "cf5b16a778af8380036ce59e7b0492370b249b11e8f07a51afac45037afee9d1"},
		{strings.Repeat("a", 1000000), "cdc76e5c9914fb9281a1c7e284d73e67f1809a48a497200e046d39ccc7112cd0"},
	} {
		want, err := hex.DecodeString(c.digest)
		if err != nil {
			t.Fatal(err)
		}
		if got := Sum([]byte(c.text)); !bytes.Equal(got[:], want) {
			t.Errorf("Sum of %d bytes = %x, want %x", len(c.text), got, want)
		}
		if got := Join([]byte(c.text)); !bytes.Equal(got[:], want) {
			t.Errorf("Join of %d bytes = %x, want %x", len(c.text), got, want)
		}
	}
}

// P4.3
func TestSumOfEachLength(t *testing.T) {
	for n := range 700 {
		for _, b := range [][]byte{mixed(n), filled(n, 0), filled(n, 128), filled(n, 255)} {
			checkDigest(t, "Sum", Sum(b), b)
			checkDigest(t, "Join", Join(b), b)
		}
	}
	for _, n := range []int{4095, 4096, 65535, 65536, 65537, 1<<20 + 55, 1<<20 + 56} {
		checkDigest(t, "Sum", Sum(mixed(n)), mixed(n))
	}
}

// P4.3
func TestSumOfNoBytes(t *testing.T) {
	for _, b := range [][]byte{nil, {}, mixed(100)[:0]} {
		checkDigest(t, "Sum", Sum(b), nil)
	}
}

// P4.3: bytes that differ in one bit have the digests of SHA-256, which differ.
func TestSumOfBytesThatDifferInOneBit(t *testing.T) {
	for _, n := range edges {
		b := mixed(n)
		seen := map[api.Digest]int{Sum(b): -1}
		for i := range 8 * n {
			b[i/8] ^= 1 << (i % 8)
			got := Sum(b)
			checkDigest(t, "Sum", got, b)
			if j, ok := seen[got]; ok {
				t.Errorf("bits %d and %d of %d bytes: the same digest %x", i, j, n, got)
			}
			seen[got] = i
			b[i/8] ^= 1 << (i % 8)
		}
	}
}

// P4.3: zero bytes at the end count, as do those that look like the padding.
func TestSumOfBytesWithPadding(t *testing.T) {
	for _, n := range edges {
		b := mixed(n)
		for _, longer := range [][]byte{append(mixed(n), 0), append(mixed(n), 128), Pad(b)} {
			got := Sum(longer)
			checkDigest(t, "Sum", got, longer)
			if got == Sum(b) {
				t.Errorf("%d bytes and %d bytes: the same digest %x", n, len(longer), got)
			}
		}
	}
}

// P4.3
func TestJoinOfNoPieces(t *testing.T) {
	checkDigest(t, "Join", Join(), nil)
	for _, l := range [][][]byte{nil, {}, {nil}, {{}}, {nil, nil}, {{}, nil, {}}, {mixed(9)[:0]}} {
		checkDigest(t, "Join", Join(l...), nil)
	}
}

// P4.3: nil and empty pieces add nothing, wherever they are.
func TestJoinOfEmptyPieces(t *testing.T) {
	for _, n := range edges {
		b := mixed(n)
		for _, l := range [][][]byte{{b}, {nil, b}, {b, nil}, {{}, b}, {b, {}}, {nil, {}, b, {}, nil}, {b[:n/2], nil, {}, b[n/2:]}} {
			checkDigest(t, "Join", Join(l...), b)
		}
	}
}

// P4.3: the order of the pieces counts.
func TestJoinKeepsTheOrder(t *testing.T) {
	for _, n := range edges[1:] {
		x, y := mixed(n), filled(n, 5)
		checkDigest(t, "Join", Join(x, y), append(bytes.Clone(x), y...))
		checkDigest(t, "Join", Join(y, x), append(bytes.Clone(y), x...))
		checkDigest(t, "Join", Join(x, x), append(bytes.Clone(x), x...))
		if Join(x, y) == Join(y, x) {
			t.Errorf("pieces of %d bytes: the same digest in both orders", n)
		}
	}
}

// P4.3: the number of bits takes more than 32 of them.
func TestJoinOfManyBytes(t *testing.T) {
	if testing.Short() {
		t.Skip("digests of 2^29 bytes take seconds")
	}
	piece, h := mixed(1<<20), sha256.New()
	l := make([][]byte, 1<<9)
	for i := range l {
		l[i] = piece
		h.Write(piece)
	}
	if got := Join(l...); !bytes.Equal(got[:], h.Sum(nil)) {
		t.Errorf("Join of 2^29 bytes = %x", got)
	}
}

// P4.4
func TestJoinOfTwoPiecesDividedAtEveryPlace(t *testing.T) {
	for _, n := range append(edges, 300) {
		b := mixed(n)
		for i := range n + 1 {
			checkDigest(t, "Join", Join(b[:i], b[i:]), b)
		}
	}
}

// P4.4
func TestJoinOfThreePiecesDividedAtEveryPlace(t *testing.T) {
	for _, n := range []int{55, 56, 64, 130} {
		b := mixed(n)
		for i := range n + 1 {
			for j := i; j <= n; j++ {
				checkDigest(t, "Join", Join(b[:i], b[i:j], b[j:]), b)
			}
		}
	}
}

// P4.4
func TestJoinOfPiecesOfOneLength(t *testing.T) {
	b := mixed(1000)
	for size := 1; size <= len(b); size++ {
		var l [][]byte
		for rest := b; len(rest) > 0; rest = rest[min(size, len(rest)):] {
			l = append(l, rest[:min(size, len(rest))])
		}
		checkDigest(t, "Join", Join(l...), b)
	}
}

// P4.4
func TestJoinOfPiecesOfMixedLengths(t *testing.T) {
	r := rand.New(rand.NewSource(4))
	for range 2000 {
		b := mixed(r.Intn(1000))
		var l [][]byte
		for rest := b; len(rest) > 0; {
			n := r.Intn(min(len(rest), 1+r.Intn(200)) + 1)
			l = append(l, rest[:n])
			rest = rest[n:]
		}
		checkDigest(t, "Join", Join(l...), b)
		if Join(l...) != Sum(b) {
			t.Errorf("Join of %d pieces is not Sum", len(l))
		}
	}
}

// Rule 6 of the document: the functions may be called concurrently.
func TestCallsAreIndependent(t *testing.T) {
	var group sync.WaitGroup
	for i := range 8 {
		group.Go(func() {
			for n := range 300 {
				b := mixed(n + i)
				checkDigest(t, "Sum", Sum(b), b)
				checkDigest(t, "Join", Join(b[:n/2], b[n/2:]), b)
				checkPad(t, b, Pad(b))
			}
		})
	}
	group.Wait()
}

// The examples of chapter 4.
func TestExamples(t *testing.T) {
	if d := Sum(nil); !bytes.HasPrefix(d[:], []byte{0xe3, 0xb0, 0xc4, 0x42}) {
		t.Errorf("the digest of no bytes = %x", d)
	}
	if d := Sum([]byte("abc")); !bytes.HasPrefix(d[:], []byte{0xba, 0x78, 0x16, 0xbf}) {
		t.Errorf("the digest of abc = %x", d)
	}
	if Blocks(55) != 1 || Blocks(56) != 2 {
		t.Errorf("55 bytes have %d blocks, and 56 bytes %d", Blocks(55), Blocks(56))
	}
}
