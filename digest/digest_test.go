package digest

import (
	"bytes"
	"crypto/sha256"
	"math"
	"math/big"
	"math/rand"
	"strconv"
	"strings"
	"sync"
	"testing"

	"sparsetree/api"
	"sparsetree/sha"
)

// outside are numbers of bits that no hasher has: around the range from 0 to 256, and far from it.
func outside() []int {
	return []int{math.MinInt, math.MinInt + 1, math.MinInt + 8, math.MinInt + 247, math.MinInt + 248, math.MinInt + 256, math.MinInt32, -1 << 32, -1 << 40,
		-512, -264, -257, -256, -255, -9, -8, -7, -2, -1,
		257, 258, 263, 264, 265, 511, 512, 513, 1 << 16, math.MaxInt32, 1 << 32, 1<<32 + 5, 1 << 40, math.MaxInt - 255, math.MaxInt - 1, math.MaxInt}
}

// filled returns the digest all of whose bytes are b.
func filled(b byte) api.Digest {
	return api.Digest(bytes.Repeat([]byte{b}, api.Size))
}

// digests are the least and the greatest digest, mixed ones, those with a single bit, and those with all bits but one.
func digests() []api.Digest {
	l := []api.Digest{{}, filled(255), filled(0xaa), filled(0x55), filled(1), filled(128), {255, 255}, {31: 255}, {127}, {128}}
	for i := range 20 {
		l = append(l, sha256.Sum256([]byte{byte(i)}))
	}
	for i := range 256 {
		one, others := api.Digest{}, filled(255)
		one[i/8] ^= 128 >> (i % 8)
		others[i/8] ^= 128 >> (i % 8)
		l = append(l, one, others)
	}
	return l
}

// inputs are bytes of all lengths around the ends of the blocks of SHA-256, and some longer ones.
func inputs() [][]byte {
	r := rand.New(rand.NewSource(5))
	var l [][]byte
	for n := range 200 {
		b := make([]byte, n)
		r.Read(b)
		l = append(l, b, make([]byte, n))
	}
	return append(l, nil, []byte("abc"), []byte("\xff\x00 \u00e9"), make([]byte, 1000), bytes.Repeat([]byte{1}, 65536))
}

// wantCut is the digest of which the first n bits are kept: as a number, its first bit is the greatest.
func wantCut(d api.Digest, n int) api.Digest {
	n = min(max(n, 0), 256)
	x := new(big.Int).SetBytes(d[:])
	x.Rsh(x, uint(256-n))
	x.Lsh(x, uint(256-n))
	var want api.Digest
	x.FillBytes(want[:])
	return want
}

// wantSum is the digest of bytes for n bits, from the standard library.
func wantSum(b []byte, n int) api.Digest { return wantCut(sha256.Sum256(b), n) }

// equalBits returns how many of their first bits two digests have in common.
func equalBits(a, b api.Digest) int {
	n := 0
	for n < 256 && (a[n/8]^b[n/8])&(128>>(n%8)) == 0 {
		n++
	}
	return n
}

// hasher returns a hasher for n bits, from 0 to 256.
func hasher(t *testing.T, n int) *Hasher {
	t.Helper()
	h, errno := New(n)
	if h == nil || errno != api.OK {
		t.Fatalf("New(%d) = %v, %v", n, h, errno)
	}
	return h
}

// checkSum checks the digest of b that h returns.
func checkSum(t *testing.T, h *Hasher, b []byte, bits int) {
	t.Helper()
	if got, want := h.Sum(b), wantSum(b, bits); got != want {
		t.Errorf("with %d bits, Sum of %d bytes = %x, want %x", bits, len(b), got, want)
	}
}

// checkHasher checks what h says of itself.
func checkHasher(t *testing.T, name string, h *Hasher, bits, calls int) {
	t.Helper()
	if h == nil {
		t.Fatalf("%s is nil", name)
	}
	if got := h.Bits(); got != bits {
		t.Errorf("%s: Bits = %d, want %d", name, got, bits)
	}
	if got := h.Calls(); got != calls {
		t.Errorf("%s: Calls = %d, want %d", name, got, calls)
	}
}

// P5.1
func TestNewOfEachNumber(t *testing.T) {
	for n := range 257 {
		checkHasher(t, "New("+strconv.Itoa(n)+")", hasher(t, n), n, 0)
	}
}

// P5.1
func TestNewOfNumbersOutside(t *testing.T) {
	for _, n := range outside() {
		if h, errno := New(n); h != nil || errno != api.ErrRange {
			t.Errorf("New(%d) = %v, %v", n, h, errno)
		}
	}
}

// P5.1 and P2 of the document: each call of New makes another hasher.
func TestNewHashersAreIndependent(t *testing.T) {
	a, b, c := hasher(t, 9), hasher(t, 9), hasher(t, 200)
	if a == b {
		t.Error("one hasher for two calls")
	}
	checkSum(t, a, []byte("a"), 9)
	checkSum(t, a, []byte("b"), 9)
	checkSum(t, c, []byte("c"), 200)
	checkHasher(t, "the first", a, 9, 2)
	checkHasher(t, "the second", b, 9, 0)
	checkHasher(t, "the third", c, 200, 1)
	checkHasher(t, "a later one", hasher(t, 9), 9, 0)
}

// P5.2
func TestCutToEachNumber(t *testing.T) {
	for _, d := range digests() {
		for n := range 257 {
			if got, want := Cut(d, n), wantCut(d, n); got != want {
				t.Errorf("Cut(%x, %d) = %x, want %x", d, n, got, want)
			}
		}
	}
}

// P5.2
func TestCutToNumbersOutside(t *testing.T) {
	for _, d := range digests() {
		for _, n := range outside() {
			want := d
			if n < 0 {
				want = api.Digest{}
			}
			if got := Cut(d, n); got != want {
				t.Errorf("Cut(%x, %d) = %x, want %x", d, n, got, want)
			}
		}
	}
}

// P5.2: 0 bits keep nothing, and 256 bits all.
func TestCutAtTheEndsOfTheRange(t *testing.T) {
	for _, d := range digests() {
		if got := Cut(d, 0); got != (api.Digest{}) {
			t.Errorf("Cut(%x, 0) = %x", d, got)
		}
		if got := Cut(d, 256); got != d {
			t.Errorf("Cut(%x, 256) = %x", d, got)
		}
	}
}

// P5.2: numbers of bits that end within a byte, and at the end of one.
func TestCutOfADigestFullOfOnes(t *testing.T) {
	for n, want := range map[int]api.Digest{0: {}, 1: {128}, 2: {192}, 3: {224}, 4: {240}, 5: {248}, 6: {252}, 7: {254}, 8: {255},
		9: {255, 128}, 12: {255, 240}, 15: {255, 254}, 16: {255, 255}, 17: {255, 255, 128}, 24: {255, 255, 255}} {
		if got := Cut(filled(255), n); got != want {
			t.Errorf("Cut to %d bits = %x, want %x", n, got, want)
		}
	}
	for n, last := range map[int]byte{248: 0, 249: 128, 251: 224, 255: 254, 256: 255} {
		want := filled(255)
		want[31] = last
		if got := Cut(filled(255), n); got != want {
			t.Errorf("Cut to %d bits = %x, want %x", n, got, want)
		}
	}
}

// P5.2: what was cut already is cut to the fewer bits of both.
func TestCutOfWhatWasCut(t *testing.T) {
	for _, d := range []api.Digest{filled(255), filled(0xa5), sha256.Sum256(nil)} {
		for m := range 257 {
			for n := range 257 {
				if got, want := Cut(Cut(d, m), n), wantCut(d, min(m, n)); got != want {
					t.Errorf("Cut(%x) to %d and to %d bits = %x, want %x", d, m, n, got, want)
				}
			}
		}
	}
}

// P5.3
func TestSumForEachNumber(t *testing.T) {
	l := inputs()
	for n := range 257 {
		h := hasher(t, n)
		for i, b := range l {
			checkSum(t, h, b, n)
			checkHasher(t, "the hasher", h, n, i+1)
		}
	}
}

// P5.3: with 256 bits, this is SHA-256; with 0 bits, all digests are zero.
func TestSumAtTheEndsOfTheRange(t *testing.T) {
	none, all := hasher(t, 0), hasher(t, 256)
	for _, b := range inputs() {
		if got := all.Sum(b); got != sha.Sum(b) || got != sha256.Sum256(b) {
			t.Errorf("with 256 bits, Sum of %d bytes = %x", len(b), got)
		}
		if got := none.Sum(b); got != (api.Digest{}) {
			t.Errorf("with 0 bits, Sum of %d bytes = %x", len(b), got)
		}
	}
	checkHasher(t, "the hasher for 0 bits", none, 0, len(inputs()))
	checkHasher(t, "the hasher for 256 bits", all, 256, len(inputs()))
}

// P5.3
func TestSumOfNoBytes(t *testing.T) {
	for n := range 257 {
		h := hasher(t, n)
		for _, b := range [][]byte{nil, {}, []byte("abc")[:0]} {
			if got, want := h.Sum(b), wantSum(nil, n); got != want {
				t.Errorf("with %d bits, Sum(%#v) = %x, want %x", n, b, got, want)
			}
		}
		checkHasher(t, "the hasher", h, n, 3)
	}
}

// P5.3: the digests of the published texts, cut by hand.
func TestSumOfPublishedTexts(t *testing.T) {
	for _, c := range []struct {
		text string
		bits int
		want api.Digest
	}{
		{"", 32, api.Digest{0xe3, 0xb0, 0xc4, 0x42}},
		{"", 31, api.Digest{0xe3, 0xb0, 0xc4, 0x42}},
		{"", 30, api.Digest{0xe3, 0xb0, 0xc4, 0x40}},
		{"", 10, api.Digest{0xe3, 0x80}},
		{"", 6, api.Digest{0xe0}},
		{"abc", 32, api.Digest{0xba, 0x78, 0x16, 0xbf}},
		{"abc", 29, api.Digest{0xba, 0x78, 0x16, 0xb8}},
		{"abc", 8, api.Digest{0xba}},
		{"abc", 1, api.Digest{128}},
		{"abc", 0, api.Digest{}},
	} {
		if got := hasher(t, c.bits).Sum([]byte(c.text)); got != c.want {
			t.Errorf("with %d bits, Sum(%q) = %x, want %x", c.bits, c.text, got, c.want)
		}
	}
}

// P5.3: every call counts, also one for bytes that were given before; nothing else does.
func TestCallsAfterManyCalls(t *testing.T) {
	h := hasher(t, 20)
	for i := range 100000 {
		h.Sum([]byte{byte(i % 3)})
		if got := h.Calls(); got != i+1 {
			t.Fatalf("Calls = %d after %d calls", got, i+1)
		}
	}
	for range 10 {
		h.Bits()
		h.Calls()
		h.Fork().Sum([]byte("a"))
		Cut(filled(255), 20)
		sha.Sum([]byte("a"))
		hasher(t, 20).Sum([]byte("a"))
	}
	checkHasher(t, "the hasher", h, 20, 100000)
	checkSum(t, h, []byte("a"), 20)
	checkHasher(t, "the hasher", h, 20, 100001)
}

// P5.3 and rule 7 of the document: the digest depends neither on what was computed before nor on the hasher.
func TestSumDependsOnTheBytesOnly(t *testing.T) {
	for _, n := range []int{0, 1, 12, 64, 255, 256} {
		h := hasher(t, n)
		for _, b := range inputs() {
			first := h.Sum(b)
			h.Sum([]byte("something else"))
			if again, other := h.Sum(b), hasher(t, n).Sum(b); again != first || other != first {
				t.Errorf("with %d bits, Sum of %d bytes = %x, then %x, and of another hasher %x", n, len(b), first, again, other)
			}
		}
	}
}

// P5.3 and rule 4 of the document: bytes are neither changed nor read behind their end, and may be changed after the call.
func TestSumReadsTheBytesOnly(t *testing.T) {
	h := hasher(t, 250)
	for n := range 130 {
		all := []byte(strings.Repeat("0123456789", 30))
		want := bytes.Clone(all)
		sum := h.Sum(all[:n])
		if !bytes.Equal(all, want) {
			t.Errorf("Sum of %d bytes changed them", n)
		}
		clear(all)
		if sum != wantSum(want[:n], 250) {
			t.Errorf("Sum of %d bytes = %x", n, sum)
		}
		checkSum(t, h, all[:n], 250)
	}
}

// P5.3: what the functions return belongs to the caller.
func TestResultsMayBeChanged(t *testing.T) {
	h, d := hasher(t, 77), filled(255)
	sum, cut := h.Sum([]byte("a")), Cut(d, 9)
	sum[0]++
	cut[0]++
	if d != filled(255) || Cut(d, 9) != wantCut(d, 9) {
		t.Error("a change of the result of Cut changed something else")
	}
	checkSum(t, h, []byte("a"), 77)
}

// P5.4
func TestForkOfEachNumber(t *testing.T) {
	for n := range 257 {
		h := hasher(t, n)
		checkHasher(t, "the fork of a new hasher", h.Fork(), n, 0)
		h.Sum([]byte("a"))
		h.Sum([]byte("b"))
		f := h.Fork()
		if f == h {
			t.Errorf("the fork for %d bits is the hasher itself", n)
		}
		checkHasher(t, "the fork", f, n, 0)
		checkHasher(t, "the hasher", h, n, 2)
		checkSum(t, f, []byte("c"), n)
		checkHasher(t, "the fork", f, n, 1)
		checkHasher(t, "the hasher", h, n, 2)
	}
}

// P5.4
func TestHasherAndForkInTurn(t *testing.T) {
	for _, n := range []int{0, 1, 8, 13, 255, 256} {
		h := hasher(t, n)
		checkSum(t, h, []byte("before"), n)
		f := h.Fork()
		for i := range 100 {
			b := []byte{byte(i), 7}
			checkSum(t, h, b, n)
			checkHasher(t, "the hasher", h, n, i+2)
			checkHasher(t, "the fork", f, n, 2*i)
			checkSum(t, f, b, n)
			checkSum(t, f, b[:1], n)
			checkHasher(t, "the hasher", h, n, i+2)
			checkHasher(t, "the fork", f, n, 2*i+2)
		}
	}
}

// P5.4
func TestForkOfAFork(t *testing.T) {
	for _, n := range []int{0, 3, 16, 255, 256} {
		l := []*Hasher{hasher(t, n)}
		for i := range 5 {
			l[i].Sum([]byte("before"))
			l = append(l, l[i].Fork())
		}
		for i, h := range l {
			for range i {
				checkSum(t, h, []byte("after"), n)
			}
		}
		for i, h := range l {
			want := i + 1
			if h == l[5] {
				want = 5 // nothing was forked from the last one
			}
			checkHasher(t, "fork "+strconv.Itoa(i), h, n, want)
		}
	}
}

// P5.4: the forks of one hasher are independent of each other, too.
func TestForksOfOneHasher(t *testing.T) {
	h := hasher(t, 11)
	a, b := h.Fork(), h.Fork()
	if a == b {
		t.Error("one fork for two calls")
	}
	checkSum(t, a, []byte("a"), 11)
	checkSum(t, a, []byte("b"), 11)
	checkSum(t, b, []byte("c"), 11)
	checkHasher(t, "the hasher", h, 11, 0)
	checkHasher(t, "the first fork", a, 11, 2)
	checkHasher(t, "the second fork", b, 11, 1)
}

// What the chapter says below its list of functions.
func TestNilHasher(t *testing.T) {
	var h *Hasher
	for range 2 {
		for _, b := range [][]byte{nil, {}, []byte("abc")} {
			if got := h.Sum(b); got != (api.Digest{}) {
				t.Errorf("Sum(%q) = %x", b, got)
			}
		}
		if got := h.Bits(); got != 0 {
			t.Errorf("Bits = %d", got)
		}
		if got := h.Calls(); got != 0 {
			t.Errorf("Calls = %d", got)
		}
		if got := h.Fork(); got != nil {
			t.Errorf("Fork = %v", got)
		}
	}
}

// P5.5: digests that are equal for some bits are equal for fewer bits, and only as far as those of SHA-256 are.
func TestCollisionsRemainForFewerBits(t *testing.T) {
	var l [][]byte
	for i := range 60 {
		l = append(l, []byte(strconv.Itoa(i)))
	}
	sums := make([][]api.Digest, 257)
	for n := range sums {
		h := hasher(t, n)
		for _, b := range l {
			sums[n] = append(sums[n], h.Sum(b))
		}
	}
	collisions := 0
	for i := range l {
		for j := range i {
			equal := equalBits(sha256.Sum256(l[i]), sha256.Sum256(l[j]))
			for n := range sums {
				if got := sums[n][i] == sums[n][j]; got != (n <= equal) {
					t.Errorf("the digests of %q and %q agree in %d bits, but for %d bits they are %x and %x", l[i], l[j], equal, n, sums[n][i], sums[n][j])
				}
			}
			if equal >= 8 {
				collisions++
			}
		}
	}
	if collisions == 0 {
		t.Error("no digests were equal for 8 bits")
	}
}

// P5.5: bytes that collide for 24 bits collide for each smaller number.
func TestCollisionOfManyBits(t *testing.T) {
	h := hasher(t, 24)
	seen := map[api.Digest]string{}
	for i := range 1 << 20 {
		b := strconv.Itoa(i)
		d := h.Sum([]byte(b))
		if a, ok := seen[d]; ok {
			for n := range 25 {
				if x, y := hasher(t, n).Sum([]byte(a)), hasher(t, n).Sum([]byte(b)); x != y {
					t.Errorf("%q and %q collide for 24 bits, but for %d bits they have %x and %x", a, b, n, x, y)
				}
			}
			checkHasher(t, "the hasher", h, 24, i+1)
			return
		}
		seen[d] = b
	}
	t.Error("no digests were equal for 24 bits")
}

// Rule 6 of the document: the functions may be called concurrently, and each hasher by one goroutine at a time.
func TestHashersOfSeveralGoroutines(t *testing.T) {
	h := hasher(t, 19)
	var group sync.WaitGroup
	for i := range 8 {
		f := h.Fork()
		group.Go(func() {
			own, errno := New(i)
			if errno != api.OK {
				t.Errorf("New(%d): %v", i, errno)
				return
			}
			for n := range 500 {
				b := make([]byte, n+i)
				checkSum(t, f, b, 19)
				checkSum(t, own, b, i)
			}
			if f.Calls() != 500 || own.Calls() != 500 {
				t.Errorf("Calls = %d and %d", f.Calls(), own.Calls())
			}
		})
	}
	group.Wait()
	checkHasher(t, "the hasher", h, 19, 0)
}

// The examples of chapter 5.
func TestExamples(t *testing.T) {
	if got, want := Cut(api.Digest{255, 255}, 4), (api.Digest{240}); got != want {
		t.Errorf("Cut to 4 bits = %x", got)
	}
	h := hasher(t, 0)
	for _, b := range inputs() {
		if got := h.Sum(b); got != (api.Digest{}) {
			t.Errorf("with 0 bits, Sum of %d bytes = %x", len(b), got)
		}
	}
}
