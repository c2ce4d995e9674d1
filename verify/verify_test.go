package verify

import (
	"bytes"
	"crypto/sha256"
	"errors"
	"fmt"
	"slices"
	"strings"
	"sync"
	"testing"

	"sparsetree/api"
	"sparsetree/codec"
	"sparsetree/digest"
	"sparsetree/fault"
	"sparsetree/internal/plain"
	"sparsetree/node"
	"sparsetree/proof"
	"sparsetree/tree"
)

// passed is the number behind that of the last step.
const passed = 6

// sumOf returns the digest of bytes for a number of bits, without a hasher.
func sumOf(bits int, b []byte) api.Digest { return digest.Cut(sha256.Sum256(b), bits) }

// valueOf returns the digest of a value for a number of bits.
func valueOf(bits int, value []byte) api.Digest { return sumOf(bits, append([]byte{2}, value...)) }

// rootOf returns the root that a well-formed proof leads to.
func rootOf(bits int, p api.Proof, k api.Key) api.Digest {
	sum := func(b []byte) api.Digest { return sumOf(bits, b) }
	return sum(plain.Images(sum, p, k)[0])
}

// supported tells whether a well-formed proof supports a well-formed claim, as chapters 15 and 18 say it.
func supported(bits int, p api.Proof, c api.Claim) bool {
	key := api.Key(c.Key)
	own := p.Kind == 1 && p.Leaf.Key == key
	if c.Present {
		return own && p.Leaf.Value == valueOf(bits, c.Value)
	}
	return p.Kind == 0 || !own && strings.HasPrefix(plain.Text(p.Leaf.Key), plain.Text(key)[:p.Depth])
}

// formOf tells which step checks the form of a claim and fails, and with which error.
func formOf(c api.Claim) (int, api.Errno) {
	switch {
	case len(c.Key) != 32:
		return 1, 2
	case c.Present && len(c.Value) > 65535:
		return 2, 3
	}
	return passed, 0
}

// outcome tells which step of a check fails first, and with which error, as the chapter's table says it.
func outcome(bits int, root []byte, c api.Claim, b []byte) (int, api.Errno) {
	if len(root) != 32 {
		return 0, 4
	}
	if number, errno := formOf(c); errno != 0 {
		return number, errno
	}
	if errno := plain.DecodeError(b); errno != 0 {
		return 3, errno
	}
	p := plain.Decoded(b)
	if !supported(bits, p, c) {
		return 4, 12
	}
	if d := rootOf(bits, p, api.Key(c.Key)); !bytes.Equal(d[:], root) {
		return 5, 13
	}
	return passed, 0
}

// text describes what a check is given.
func text(bits int, root []byte, c api.Claim, b []byte) string {
	value := fmt.Sprintf("%x", c.Value[:min(len(c.Value), 20)])
	return fmt.Sprintf("%d bits, root %x, key %x, value of %d bytes %s, present %v, proof %x", bits, root, c.Key, len(c.Value), value, c.Present, b)
}

// checkClaim checks all functions for a claim with bytes against a root. It returns the number of the first step that fails.
func checkClaim(t *testing.T, h *digest.Hasher, root []byte, c api.Claim, b []byte) int {
	t.Helper()
	number, errno := outcome(h.Bits(), root, c, b)
	before := h.Calls()
	if got := Check(h, root, c, b); got != errno {
		t.Fatalf("%s: Check = %v, want %v", text(h.Bits(), root, c, b), got, errno)
	}
	if n := h.Calls() - before; n > 259 {
		t.Fatalf("%s: Check computes %d digests", text(h.Bits(), root, c, b), n)
	}
	if err := Verify(h, root, c, b); !isFault(err, number, errno) {
		t.Fatalf("%s: Verify = %v, want step %d and %v", text(h.Bits(), root, c, b), err, number, errno)
	}
	if len(root) == 32 && plain.DecodeError(b) == 0 {
		checkAccepts(t, h, api.Digest(root), c, plain.Decoded(b), number == passed)
	}
	if _, want := formOf(c); Claim(c) != want {
		t.Fatalf("%s: Claim = %v, want %v", text(h.Bits(), root, c, b), Claim(c), want)
	}
	return number
}

// isFault reports whether an error is the Fault of a step with an error of its own, or nil if no step fails.
func isFault(err error, number int, errno api.Errno) bool {
	if number == passed {
		return err == nil
	}
	f, ok := err.(*fault.Fault)
	return ok && f != nil && *f == fault.Fault{Op: "verify", At: number, Err: errno}
}

// checkAccepts checks Accepts, and how many digests it computes.
func checkAccepts(t *testing.T, h *digest.Hasher, root api.Digest, c api.Claim, p api.Proof, want bool) {
	t.Helper()
	before := h.Calls()
	if got := Accepts(h, root, c, p); got != want {
		t.Fatalf("%s: Accepts of %x = %v, want %v", text(h.Bits(), root[:], c, nil), p, got, want)
	}
	if n := h.Calls() - before; n > 259 {
		t.Fatalf("%s: Accepts of %x computes %d digests", text(h.Bits(), root[:], c, nil), p, n)
	}
}

// absent is the claim that a key is absent.
func absent(k api.Key) api.Claim { return api.Claim{Key: slices.Clone(k[:])} }

// present is the claim that a key has a value.
func present(k api.Key, value []byte) api.Claim {
	return api.Claim{Key: slices.Clone(k[:]), Value: value, Present: true}
}

// truth is the claim about a key that is true of a map.
func truth(m plain.Map, k api.Key) api.Claim {
	if l := m.With(plain.Text(k)); len(l) == 1 {
		return present(k, l[0].Entry.Value)
	}
	return absent(k)
}

// sample is a claim that is true of a map, with the root and the proof of the map.
type sample struct {
	name  string
	h     *digest.Hasher
	m     plain.Map
	root  []byte
	claim api.Claim
	proof api.Proof
	b     []byte
}

// sampleOf makes the sample of a map and a key.
func sampleOf(h *digest.Hasher, m plain.Map, n *node.Node, k api.Key) sample {
	root, p := node.Digest(h, n), proof.Prove(h, n, k)
	name := fmt.Sprintf("%s, key %x", m.Name, k)
	return sample{name, h, m, root[:], truth(m, k), p, plain.Encoding(p)}
}

// key is the key of the claim.
func (s sample) key() api.Key { return api.Key(s.claim.Key) }

// someMaps returns maps without keys, with one and with more, and such with proofs of 1 and of up to 256 siblings.
func someMaps() []plain.Map {
	k := plain.Filled(0x5a)
	return append(plain.Fives(), plain.OfKeys("no keys"), plain.OfKeys("one", k), plain.OfKeys("two", k, plain.Flipped(k, 100)),
		plain.OfKeys("last bit", k, plain.Flipped(k, 255)), plain.OfKeys("beside", plain.Neighbours(k)...), plain.OfKeys("beside without", plain.Neighbours(k)[1:]...))
}

// samples returns samples for keys that are in a map, and that end at an empty subtree and at the leaf of another key.
func samples(t *testing.T, bits int) []sample {
	h := plain.Hasher(bits)
	var l []sample
	ends := map[string]bool{}
	for _, m := range someMaps() {
		n := m.Tree(h)
		keys := []api.Key{{}, plain.Filled(0x5a), plain.Flipped(plain.Filled(0x5a), 50), {64, 5}, {192}}
		for _, x := range m.Members[:min(3, len(m.Members))] {
			keys = append(keys, x.Entry.Key, plain.Flipped(x.Entry.Key, 255), plain.Flipped(x.Entry.Key, 60))
		}
		for _, k := range keys {
			s := sampleOf(h, m, n, k)
			l = append(l, s)
			ends[plain.EndOf(s.proof, k)] = true
		}
	}
	if len(ends) != 3 {
		t.Fatalf("the samples end at %v", ends)
	}
	return l
}

// others returns claims about the key of a claim that differ from it, with other values, and with other Values that do not matter.
func others(c api.Claim) []api.Claim {
	values := [][]byte{nil, {}, {0}, {2}, []byte("another value"), append(slices.Clone(c.Value), 0), make([]byte, 32), make([]byte, 65535)}
	if len(c.Value) > 0 {
		changed := slices.Clone(c.Value)
		changed[0] ^= 1
		values = append(values, c.Value, c.Value[1:], c.Value[:len(c.Value)-1], changed)
	}
	var l []api.Claim
	for _, v := range values {
		l = append(l, api.Claim{Key: c.Key, Value: v}, api.Claim{Key: c.Key, Value: v, Present: true})
	}
	return l
}

// flipped returns bytes with one bit inverted.
func flipped(b []byte, i int) []byte {
	b = slices.Clone(b)
	b[i/8] ^= 128 >> (i % 8)
	return b
}

// expect checks that a certain step is the first one that fails.
func expect(t *testing.T, name string, want int, h *digest.Hasher, root []byte, c api.Claim, b []byte) {
	t.Helper()
	if number := checkClaim(t, h, root, c, b); number != want {
		t.Fatalf("%s: step %d fails first, want %d: %s", name, number, want, text(h.Bits(), root, c, b))
	}
}

// P18.3
func TestClaim(t *testing.T) {
	sizes := []int{0, 1, 2, 31, 32, 33, 63, 64, 65, 256, 288, 1 << 16, 1<<16 + 32}
	for _, size := range append([]int{-1}, sizes...) {
		for _, n := range append([]int{-1, 1000, 65534, 65535, 65537, 1 << 17, 1<<17 - 1, 1 << 20}, sizes...) {
			var k, value []byte
			if size >= 0 {
				k = make([]byte, size)
			}
			if n >= 0 {
				value = make([]byte, n)
			}
			want, long := api.OK, api.OK
			if n > 65535 {
				long = api.ErrValue
			}
			if size != 32 {
				want, long = api.ErrKey, api.ErrKey
			}
			if errno := Claim(api.Claim{Key: k, Value: value, Present: true}); errno != long {
				t.Errorf("key of %d bytes, value of %d: Claim = %v, want %v", size, n, errno, long)
			}
			if errno := Claim(api.Claim{Key: k, Value: value}); errno != want {
				t.Errorf("absent key of %d bytes, value of %d: Claim = %v, want %v", size, n, errno, want)
			}
		}
	}
}

// P18.1, P18.2, P18.4 and P18.5: the claim that is true of a map, and all others about its key with the same proof.
func TestClaimsAboutMaps(t *testing.T) {
	ends, depths := map[string]bool{}, map[int]bool{}
	plain.EachQuery([]int{0, 12, 256}, func(h *digest.Hasher, m plain.Map, n *node.Node, k api.Key) {
		s := sampleOf(h, m, n, k)
		expect(t, s.name, passed, h, s.root, s.claim, s.b)
		ends[plain.EndOf(s.proof, k)], depths[s.proof.Depth] = true, true
		for i, c := range others(s.claim) {
			if i >= 4 && len(m.Members) != 5 {
				break
			}
			same := !c.Present || valueOf(h.Bits(), c.Value) == valueOf(h.Bits(), s.claim.Value)
			want := 4
			if c.Present == s.claim.Present && same {
				want = passed
			}
			expect(t, s.name, want, h, s.root, c, s.b)
		}
	})
	if len(ends) != 3 || !depths[0] || !depths[1] || !depths[2] || !depths[255] || !depths[256] {
		t.Errorf("ends %v, depths %v", ends, depths)
	}
}

// P18.5: with few bits, values with the same digest cannot be told apart, and all others can.
func TestValuesWithTheSameDigest(t *testing.T) {
	for bits, tries := range map[int]int{0: 100, 1: 100, 8: 5000, 12: 50000, 256: 100} {
		h := plain.Hasher(bits)
		for _, m := range plain.Fives() {
			x := m.Members[2].Entry
			s := sampleOf(h, m, m.Tree(h), x.Key)
			same, different := 0, 0
			for i := range tries {
				c := present(x.Key, fmt.Appendf(nil, "other %d", i))
				if valueOf(bits, c.Value) != valueOf(bits, x.Value) {
					if different++; different <= 20 {
						expect(t, "another digest", 4, h, s.root, c, s.b)
					}
				} else if same++; same <= 5 {
					expect(t, "the same digest", passed, h, s.root, c, s.b)
				}
			}
			if bits < 256 && same < 3 || bits == 256 && same > 0 || bits > 0 && different == 0 {
				t.Fatalf("%d bits, %s: %d values with the same digest, %d with another one", bits, s.name, same, different)
			}
		}
	}
}

// P18.1 and P18.2: roots that are too short and too long, with the right bytes and with others.
func TestRootsOfOtherSizes(t *testing.T) {
	for _, bits := range plain.Bits() {
		for _, s := range samples(t, bits) {
			long := slices.Concat(s.root, s.root, make([]byte, 32))
			for _, root := range [][]byte{nil, {}, s.root[:0], {0}, s.root[:1], s.root[:16], s.root[:31], s.root[1:], long[:33], long[:63], long[:64], long, append(make([]byte, 1), s.root...)} {
				expect(t, s.name, 0, s.h, root, s.claim, s.b)
			}
		}
	}
}

// P18.1 and P18.2: roots that differ in one bit from that of the map, and those of other maps.
func TestOtherRoots(t *testing.T) {
	for _, bits := range []int{0, 12, 256} {
		l := samples(t, bits)
		for _, s := range l {
			for i := 0; i < 256; i += 1 + s.proof.Depth/4 {
				expect(t, s.name, 5, s.h, flipped(s.root, i), s.claim, s.b)
			}
			for _, x := range l {
				if s.proof.Depth > 10 && x.m.Name != "no keys" {
					continue
				}
				want := 5
				if bytes.Equal(x.root, s.root) {
					want = passed
				}
				expect(t, s.name+" and the root of "+x.name, want, s.h, x.root, s.claim, s.b)
			}
		}
	}
}

// P18.1 and P18.2: keys that are too short and too long, with the right bytes and with others.
func TestKeysOfOtherSizes(t *testing.T) {
	for _, bits := range []int{0, 12, 256} {
		for _, s := range samples(t, bits) {
			long := slices.Concat(s.claim.Key, s.claim.Key, make([]byte, 32))
			for _, k := range [][]byte{nil, {}, s.claim.Key[:0], {0}, long[:1], long[:16], long[:31], long[1:32], long[:33], long[:63], long[:64], long, append(make([]byte, 1), s.claim.Key...)} {
				c := s.claim
				c.Key = k
				expect(t, s.name, 1, s.h, s.root, c, s.b)
				c.Present = !c.Present
				expect(t, s.name, 1, s.h, s.root, c, s.b)
			}
		}
	}
}

// P18.1, P18.2 and P18.5: values of the map that have no bytes, and as many as a claim may have, and one more.
func TestValuesOfEachSize(t *testing.T) {
	for _, bits := range []int{0, 12, 256} {
		h := plain.Hasher(bits)
		for _, n := range []int{-1, 0, 1, 31, 32, 33, 64, 65534, 65535, 65536, 65537, 1 << 17} {
			var value []byte
			if n >= 0 {
				value = bytes.Repeat([]byte{0x5a}, n)
			}
			m := plain.OfKeys("of sizes", api.Key{7}, api.Key{200}).Put(api.Entry{Key: api.Key{7}, Value: value})
			s := sampleOf(h, m, m.Tree(h), api.Key{7})
			want := passed
			if n > 65535 {
				want = 2
			}
			expect(t, s.name, want, h, s.root, s.claim, s.b)
			expect(t, s.name, 4, h, s.root, api.Claim{Key: s.claim.Key, Value: value}, s.b)
		}
	}
}

// P18.1 and P18.3: if Present is false, no value of any size changes the result, or the number of digests.
func TestValuesOfAbsentKeys(t *testing.T) {
	for _, bits := range []int{0, 12, 256} {
		for _, s := range samples(t, bits) {
			before := s.h.Calls()
			Check(s.h, s.root, absent(s.key()), s.b)
			calls := s.h.Calls() - before
			for _, n := range []int{0, 1, 32, 65535, 65536, 1 << 17} {
				c := absent(s.key())
				c.Value = make([]byte, n)
				want := passed
				if s.claim.Present {
					want = 4
				}
				expect(t, s.name, want, s.h, s.root, c, s.b)
				before := s.h.Calls()
				if Check(s.h, s.root, c, s.b); s.h.Calls()-before != calls {
					t.Errorf("%s: with a value of %d bytes that does not matter, %d digests are computed, and %d without it", s.name, n, s.h.Calls()-before, calls)
				}
			}
		}
	}
}

// broken returns bytes that are no encodings, with the errors of Decode, made of an encoding.
func broken(b []byte) map[api.Errno][][]byte {
	marked := func(i int, x byte) []byte {
		b := slices.Clone(b)
		b[i] = x
		return b
	}
	long := append(slices.Clone(b), make([]byte, 64)...)
	forms := [][]byte{nil, {}, {1}, {2}, b[:2], b[:4], b[:35], marked(0, 2)[:35], b[:len(b)-1], long[:len(b)+1], long[:len(b)+32], long[:len(b)+64], marked(2, 2), marked(3, b[3]+1), marked(3, b[3]-1), flipped(b, 8*4+3), flipped(b, 8*20)}
	return map[api.Errno][][]byte{
		api.ErrForm:    append(forms, make([]byte, 35), bytes.Repeat([]byte{1}, 4)),
		api.ErrVersion: {marked(0, 0), marked(0, 2), marked(0, 255), marked(0, 129), make([]byte, 36), append(marked(0, 2), 0), bytes.Repeat([]byte{255}, 200)},
		api.ErrKind:    {marked(1, 2), marked(1, 3), marked(1, 255), marked(1, 128), append(marked(1, 2), 0), bytes.Repeat([]byte{1, 2}, 18)},
	}
}

// P18.1 and P18.2: bytes that Decode rejects with each of its errors.
func TestBytesThatAreNoEncoding(t *testing.T) {
	for _, bits := range []int{0, 12, 256} {
		for _, s := range samples(t, bits) {
			for errno, l := range broken(s.b) {
				for _, b := range l {
					expect(t, s.name, 3, s.h, s.root, s.claim, b)
					if got := Check(s.h, s.root, s.claim, b); got != errno {
						t.Fatalf("%s: Check with %x = %v, want %v", s.name, b, got, errno)
					}
				}
			}
		}
	}
}

// P18.1 and P18.2: all sets of steps that fail at the same time; the first one determines the error.
func TestFirstStepThatFails(t *testing.T) {
	errnos := []api.Errno{api.ErrRange, api.ErrKey, api.ErrValue, api.OK, api.ErrClaim, api.ErrRoot}
	for _, s := range samples(t, 256) {
		for form, wrongBytes := range broken(s.b) {
			for set := 1; set < 1<<passed; set++ {
				for variant := range 4 {
					root, c, b := spoil(s, set, variant, wrongBytes)
					first, want := 0, form
					for set>>first&1 == 0 {
						first++
					}
					if first != 3 {
						want = errnos[first]
					}
					if errno := Check(s.h, root, c, b); errno != want {
						t.Fatalf("%s: the steps of %06b fail: Check = %v, want %v", s.name, set, errno, want)
					}
					expect(t, s.name, first, s.h, root, c, b)
				}
			}
		}
	}
}

// spoil changes what a check is given, so that a set of steps fail, in one of several ways.
func spoil(s sample, set, variant int, wrongBytes [][]byte) (root []byte, c api.Claim, b []byte) {
	root, c, b = slices.Clone(s.root), s.claim, s.b
	fails := func(step int) bool { return set>>step&1 == 1 }
	if fails(5) {
		root[[]int{0, 31, 16, 5}[variant]] ^= 1
	}
	if fails(4) {
		c.Present = !s.claim.Present
		if variant%2 == 0 {
			c.Present, c.Value = true, append([]byte("not "), s.claim.Value...)
		}
	}
	if fails(3) {
		b = wrongBytes[(set+variant)%len(wrongBytes)]
	}
	if fails(2) {
		c.Present, c.Value = true, make([]byte, []int{65536, 65537, 1 << 17, 65568}[variant])
	}
	k := s.claim.Key
	if fails(1) {
		c.Key = [][]byte{nil, k[:31], append(slices.Clone(k), 0), {}}[variant]
	}
	if fails(0) {
		root = [][]byte{root[:31], append(root, 0), nil, append(root, root...)}[variant]
	}
	return root, c, b
}

// P18.1, P18.2 and P18.4: the errors of the steps, written out.
func TestErrorsOfTheSteps(t *testing.T) {
	h := plain.Hasher(256)
	m := plain.OfKeys("two", api.Key{}, api.Key{255})
	s := sampleOf(h, m, m.Tree(h), api.Key{255})
	value := s.claim.Value
	for _, c := range []struct {
		root  []byte
		claim api.Claim
		b     []byte
		text  string
		errno api.Errno
	}{
		{s.root[:31], s.claim, s.b, "verify 0: error 4", api.ErrRange},
		{s.root, api.Claim{Key: make([]byte, 31)}, s.b, "verify 1: error 2", api.ErrKey},
		{s.root, api.Claim{Key: make([]byte, 32), Value: make([]byte, 65536), Present: true}, s.b, "verify 2: error 3", api.ErrValue},
		{s.root, s.claim, s.b[:35], "verify 3: error 5", api.ErrForm},
		{s.root, s.claim, make([]byte, 36), "verify 3: error 6", api.ErrVersion},
		{s.root, s.claim, bytes.Repeat([]byte{1, 2}, 18), "verify 3: error 7", api.ErrKind},
		{s.root, absent(api.Key{255}), s.b, "verify 4: error 12", api.ErrClaim},
		{s.root, present(api.Key{255}, nil), s.b, "verify 4: error 12", api.ErrClaim},
		{s.root, present(api.Key{254}, value), s.b, "verify 4: error 12", api.ErrClaim},
		{s.root, absent(api.Key{}), s.b, "verify 4: error 12", api.ErrClaim},
		{make([]byte, 32), s.claim, s.b, "verify 5: error 13", api.ErrRoot},
		{make([]byte, 32), absent(api.Key{254}), s.b, "verify 5: error 13", api.ErrRoot},
	} {
		err := Verify(h, c.root, c.claim, c.b)
		if err == nil || err.Error() != c.text || !errors.Is(err, c.errno) || fault.Code(err) != c.errno || !slices.Equal(fault.Ops(err), []string{"verify"}) {
			t.Errorf("Verify = %v, want %s", err, c.text)
		}
		if errno := Check(h, c.root, c.claim, c.b); errno != c.errno {
			t.Errorf("%s: Check = %v", c.text, errno)
		}
		if p, errno := codec.Decode(c.b); errno == api.OK && len(c.root) == 32 && Accepts(h, api.Digest(c.root), c.claim, p) {
			t.Errorf("%s: Accepts = true", c.text)
		}
	}
	for _, c := range []api.Claim{s.claim, absent(api.Key{254}), absent(api.Key{128}), {Key: bytes.Repeat([]byte{254}, 32), Value: make([]byte, 65536)}} {
		if err := Verify(h, s.root, c, s.b); err != nil || Check(h, s.root, c, s.b) != api.OK || !Accepts(h, api.Digest(s.root), c, s.proof) {
			t.Errorf("Verify for the key %x = %v", c.Key, err)
		}
	}
}

// P18.1 and P18.4: at most 259 digests, for each depth, with all siblings and with the last one only.
func TestNumberOfDigests(t *testing.T) {
	value := []byte("a value")
	most := 0
	for _, bits := range []int{0, 256} {
		h := plain.Hasher(bits)
		for _, p := range plain.OfEachDepth() {
			claims := []api.Claim{absent(plain.Filled(0x5a)), present(plain.Filled(0x5a), value)}
			if p.Kind == api.Full {
				p.Leaf.Value = valueOf(bits, value)
				claims = append(claims, absent(plain.Flipped(p.Leaf.Key, 255)), present(p.Leaf.Key, value))
			}
			b := plain.Encoding(p)
			for _, c := range claims {
				root := rootOf(bits, p, api.Key(c.Key))
				before := h.Calls()
				if errno := Check(h, root[:], c, b); errno == api.OK {
					most = max(most, h.Calls()-before)
				}
				checkClaim(t, h, root[:], c, b)
				checkClaim(t, h, flipped(root[:], 9), c, b)
			}
		}
	}
	if most < 257 {
		t.Errorf("with 256 siblings, %d digests are computed", most)
	}
}

// P18.4: no claim is accepted with a proof that is not well-formed, whatever the root is.
func TestAcceptsOfMalformedProofs(t *testing.T) {
	value := []byte("a value")
	for _, bits := range []int{0, 256} {
		h := plain.Hasher(bits)
		for _, p := range plain.GoodProofs() {
			claims := []api.Claim{absent(plain.Filled(0x5a)), absent(api.Key{})}
			if p.Kind == 1 {
				p.Leaf.Value = valueOf(bits, value)
				claims = []api.Claim{absent(plain.Flipped(p.Leaf.Key, 255)), present(p.Leaf.Key, value)}
			}
			for _, c := range claims {
				root := rootOf(bits, p, api.Key(c.Key))
				checkAccepts(t, h, root, c, p, supported(bits, p, c))
				for _, x := range plain.Breaks(p) {
					checkAccepts(t, h, root, c, x.Proof, false)
					checkAccepts(t, h, api.Digest{}, c, x.Proof, false)
				}
			}
		}
	}
}

// P18.4: no claim that is not well-formed is accepted.
func TestAcceptsOfMalformedClaims(t *testing.T) {
	for _, bits := range []int{0, 256} {
		for _, s := range samples(t, bits) {
			root := api.Digest(s.root)
			checkAccepts(t, s.h, root, s.claim, s.proof, true)
			for _, k := range [][]byte{nil, {}, s.claim.Key[:31], append(slices.Clone(s.claim.Key), 0)} {
				c := s.claim
				c.Key = k
				checkAccepts(t, s.h, root, c, s.proof, false)
			}
			checkAccepts(t, s.h, root, present(s.key(), make([]byte, 65536)), s.proof, false)
		}
	}
}

// P18.5: the proof for another key shows a claim exactly if the ways of both keys end at the same place, and another map's does not.
func TestProofsOfOtherKeysAndMaps(t *testing.T) {
	seen := map[string]int{}
	h := plain.Hasher(256)
	maps := plain.Fives()
	for i, m := range maps {
		n := m.Tree(h)
		for _, k := range m.Queries() {
			s := sampleOf(h, m, n, k)
			for _, other := range m.Queries() {
				x := sampleOf(h, m, n, other)
				want := 4
				if s.proof.Depth == x.proof.Depth && plain.Text(k)[:s.proof.Depth] == plain.Text(other)[:x.proof.Depth] {
					want = passed
				}
				number := checkClaim(t, h, s.root, s.claim, x.b)
				if (number == passed) != (want == passed) {
					t.Fatalf("%s with the proof of %x: step %d fails first", s.name, other, number)
				}
				seen[fmt.Sprint(number)]++
			}
			strange := maps[(i+1)%len(maps)].Put(api.Entry{Key: k, Value: s.claim.Value})
			x := sampleOf(h, strange, strange.Tree(h), k)
			if checkClaim(t, h, s.root, s.claim, x.b) == passed || checkClaim(t, h, x.root, x.claim, s.b) == passed {
				t.Fatalf("%s: the proof of another map is accepted", s.name)
			}
		}
	}
	if seen["4"] == 0 || seen["5"] == 0 || seen["6"] < 100 {
		t.Errorf("steps that failed first: %v", seen)
	}
}

// P18.1 and P18.5: the proof of the same map with another value for the key, without the key, or with one key more.
func TestProofsOfChangedMaps(t *testing.T) {
	h := plain.Hasher(256)
	for _, m := range someMaps() {
		n := m.Tree(h)
		for _, k := range m.Queries()[:10] {
			s := sampleOf(h, m, n, k)
			without, found := m.Remove(k)
			changed := []plain.Map{m.Put(api.Entry{Key: k, Value: []byte("another value")}), m.Put(api.Entry{Key: plain.Flipped(k, 77), Value: []byte("one more")})}
			if found {
				changed = append(changed, without)
			}
			for _, x := range changed {
				later := sampleOf(h, x, x.Tree(h), k)
				if checkClaim(t, h, s.root, later.claim, later.b) != 5 || checkClaim(t, h, later.root, s.claim, s.b) != 5 {
					t.Fatalf("%s: a claim is accepted with its proof, but for the root of another map", s.name)
				}
				if checkClaim(t, h, s.root, s.claim, later.b) == passed || checkClaim(t, h, later.root, later.claim, s.b) == passed {
					t.Fatalf("%s: a claim is accepted with the proof of another map", s.name)
				}
			}
		}
	}
}

// P18.1 and P18.5: each bit of the encoding, of the siblings and the leaf in it among them, and of the key.
func TestChangedBits(t *testing.T) {
	for _, bits := range []int{0, 12, 256} {
		seen := map[int]bool{}
		for _, s := range samples(t, bits) {
			if len(s.proof.Siblings) > 4 {
				continue
			}
			for i := 0; i < 8*len(s.b); i += 1 + s.proof.Depth/10 {
				number := checkClaim(t, s.h, s.root, s.claim, flipped(s.b, i))
				seen[number] = true
				if bits == 256 && number == passed {
					t.Fatalf("%s: accepted though bit %d of the encoding is changed", s.name, i)
				}
			}
			for i := 0; i < 256; i += 1 + s.proof.Depth/10 {
				c := s.claim
				c.Key = flipped(c.Key, i)
				checkClaim(t, s.h, s.root, c, s.b)
			}
		}
		if !seen[3] || !seen[4] || bits > 0 && !seen[5] || bits < 256 && !seen[passed] {
			t.Errorf("%d bits: steps that failed first: %v", bits, seen)
		}
	}
}

// P18.1 and P18.5: the siblings of a proof with many of them, each one changed in one bit.
func TestChangedSiblings(t *testing.T) {
	h := plain.Hasher(256)
	k := plain.Filled(0x5a)
	for _, keys := range [][]api.Key{plain.Neighbours(k), plain.Neighbours(k)[1:]} {
		m := plain.OfKeys("beside", keys...)
		s := sampleOf(h, m, m.Tree(h), k)
		expect(t, s.name, passed, h, s.root, s.claim, s.b)
		for i := range s.proof.Siblings {
			p := plain.CopyOf(s.proof)
			p.Siblings[i] = api.Digest(flipped(p.Siblings[i][:], i))
			expect(t, s.name, 5, h, s.root, s.claim, plain.Encoding(p))
		}
	}
}

// P18.5: the maps of a layer below, after each of some changes.
func TestMapsOfATree(t *testing.T) {
	for _, bits := range plain.Bits() {
		x, errno := tree.New(bits)
		if errno != api.OK {
			t.Fatal(errno)
		}
		m := plain.OfKeys("tree")
		keys := append(plain.Fives()[0].Keys(), plain.Keys()...)
		for i, k := range append(keys, keys[:7]...) {
			value := fmt.Appendf(nil, "value %d", i)
			if err := x.Put(k[:], value); err != nil {
				t.Fatal(err)
			}
			m = m.Put(api.Entry{Key: k, Value: value})
			if i%3 == 2 {
				x.Delete(keys[i/2][:])
				m, _ = m.Remove(keys[i/2])
			}
			root := x.Root()
			for _, k := range append(keys, api.Key{64}, api.Key{192, 1}) {
				p := proof.Prove(x.Hasher(), x.Node(), k)
				b, errno := codec.Encode(p)
				if errno != api.OK {
					t.Fatal(errno)
				}
				expect(t, "tree", passed, x.Hasher(), root[:], truth(m, k), b)
				c := truth(m, k)
				c.Present = !c.Present
				expect(t, "tree", 4, x.Hasher(), root[:], c, b)
			}
		}
	}
}

// P18.1 to P18.5: roots, claims and proofs of several maps and keys, mixed. With 256 bits, no false claim is accepted.
func TestMixedParts(t *testing.T) {
	for _, bits := range []int{0, 1, 12, 256} {
		l := samples(t, bits)
		seen := map[int]bool{}
		for seed := range 3000 {
			x := plain.Scattered(uint64(100*seed), 1)[0]
			pick := func(i int) sample { return l[(int(x[i])<<8|int(x[i+1]))%len(l)] }
			s := pick(0)
			root, c, b := s.root, s.claim, slices.Clone(s.b)
			if x[8]%2 == 0 {
				root = pick(2).root
			}
			if x[9]%2 == 0 {
				c = pick(4).claim
			}
			switch x[10] % 8 {
			case 0, 1, 2, 3:
				b = slices.Clone(pick(6).b)
			case 4:
				b[int(x[11])%len(b)] ^= x[12]
			case 5:
				b = b[:int(x[11])%len(b)]
			}
			if x[13]%8 == 0 {
				c.Present = !c.Present
			}
			number := checkClaim(t, s.h, root, c, b)
			seen[number] = true
			for _, o := range l {
				if bits == 256 && number == passed && bytes.Equal(o.root, root) && !trueOf(o.m, c) {
					t.Fatalf("accepted though it is false: %s", text(bits, root, c, b))
				}
			}
		}
		if !seen[3] || !seen[4] || !seen[passed] || bits > 0 && !seen[5] {
			t.Errorf("%d bits: steps that failed first: %v", bits, seen)
		}
	}
}

// trueOf reports whether a claim is true of a map.
func trueOf(m plain.Map, c api.Claim) bool {
	want := truth(m, api.Key(c.Key))
	return c.Present == want.Present && (!c.Present || bytes.Equal(c.Value, want.Value))
}

// Rule 4 of the document: no function changes what it is given, and what is behind it is neither read nor written.
func TestArgumentsAreNotChanged(t *testing.T) {
	behind := func(b []byte) []byte { return append(slices.Clone(b), 1, 2, 3) }
	for _, bits := range []int{0, 256} {
		for _, s := range samples(t, bits) {
			for _, c := range append(others(s.claim), s.claim) {
				for _, cut := range []int{0, 1} {
					whole := [][]byte{behind(s.root), behind(c.Key), behind(c.Value), behind(s.b)}
					before := [][]byte{behind(s.root), behind(c.Key), behind(c.Value), behind(s.b)}
					siblings := append(slices.Clone(s.proof.Siblings), api.Digest{1})
					root, b := whole[0][:32-cut], whole[3][:len(s.b)-cut]
					given := api.Claim{Key: whole[1][:32], Value: whole[2][:len(c.Value)], Present: c.Present}
					p := s.proof
					p.Siblings = siblings[:len(siblings)-1]
					_, want := outcome(bits, root, given, b)
					if errno := Check(s.h, root, given, b); errno != want || fault.Code(Verify(s.h, root, given, b)) != want {
						t.Fatalf("%s: %v, want %v", s.name, errno, want)
					}
					Claim(given)
					Accepts(s.h, api.Digest(s.root), given, p)
					if !slices.EqualFunc(whole, before, bytes.Equal) || !slices.Equal(siblings, append(slices.Clone(s.proof.Siblings), api.Digest{1})) {
						t.Fatalf("%s: the arguments are changed", s.name)
					}
				}
			}
		}
	}
}

// Rules 4 and 7 of the document: what was given may be changed after a call, and the same call has the same result.
func TestErrorsKeepNothing(t *testing.T) {
	for _, s := range samples(t, 256) {
		root, c, b := slices.Clone(s.root), absent(s.key()), slices.Clone(s.b[:len(s.b)-1])
		first, second := Verify(s.h, root, c, b), Verify(s.h, root, c, b)
		clear(root)
		clear(c.Key)
		clear(b)
		first.(*fault.Fault).At = 9
		if !isFault(second, 3, api.ErrForm) || !isFault(Verify(s.h, s.root, s.claim, s.b[:len(s.b)-1]), 3, api.ErrForm) {
			t.Errorf("%s: after the arguments and an error were changed: %v", s.name, second)
		}
	}
}

// Rule 6 of the document: the functions may be called concurrently.
func TestConcurrentCalls(t *testing.T) {
	l := samples(t, 256)
	var wait sync.WaitGroup
	for i := range 8 {
		own := l[0].h.Fork()
		wait.Go(func() {
			for j := range l {
				s := l[(i*7+j)%len(l)]
				c := s.claim
				c.Present = !c.Present
				if Check(own, s.root, s.claim, s.b) != api.OK || Verify(own, s.root, s.claim, s.b) != nil || !Accepts(own, api.Digest(s.root), s.claim, s.proof) {
					t.Errorf("%s: not accepted", s.name)
				}
				if Check(own, s.root, c, s.b) != api.ErrClaim || !isFault(Verify(own, s.root, c, s.b), 4, api.ErrClaim) || Accepts(own, api.Digest(s.root), c, s.proof) {
					t.Errorf("%s: accepted though it is false", s.name)
				}
				if Claim(s.claim) != api.OK || Claim(api.Claim{}) != api.ErrKey {
					t.Errorf("%s: Claim = %v", s.name, Claim(s.claim))
				}
			}
		})
	}
	wait.Wait()
}

// The example of the chapter.
func TestExampleOfAShortRoot(t *testing.T) {
	for _, bits := range plain.Bits() {
		for _, s := range samples(t, bits) {
			for _, c := range append(others(s.claim), s.claim, api.Claim{}, api.Claim{Present: true}, present(s.key(), make([]byte, 65536)), api.Claim{Key: make([]byte, 33)}) {
				for _, b := range [][]byte{s.b, nil, s.b[:35], make([]byte, 36)} {
					if err := Verify(s.h, s.root[:31], c, b); !isFault(err, 0, api.ErrRange) || Check(s.h, s.root[:31], c, b) != api.ErrRange {
						t.Fatalf("%s: Verify = %v", s.name, err)
					}
				}
			}
		}
	}
}

// The fourth example of the document: the absence of a key also shows that of all keys whose ways end at the same place.
func TestExampleOfOtherKeys(t *testing.T) {
	h := plain.Hasher(256)
	for _, m := range []plain.Map{plain.OfKeys("at an empty subtree", api.Key{0}, api.Key{32}, api.Key{255}), plain.OfKeys("at another leaf", api.Key{0}, api.Key{96}, api.Key{255})} {
		s := sampleOf(h, m, m.Tree(h), api.Key{64})
		for first := range 256 {
			for _, k := range []api.Key{{byte(first)}, {byte(first), 31: 1}, plain.Filled(byte(first))} {
				want := passed
				switch {
				case s.proof.Kind == api.Full && (first>>6 != 1 || k == api.Key{96}):
					want = 4
				case first>>6 != 1:
					want = 5
				}
				expect(t, m.Name, want, h, s.root, absent(k), s.b)
			}
		}
	}
}

// The fifth example of the document: with 0 bits, the proof of the empty map is accepted for the absence of every key.
func TestExampleOfNoBits(t *testing.T) {
	h := plain.Hasher(0)
	b := append([]byte{1}, make([]byte, 35)...)
	for _, m := range someMaps() {
		root := node.Digest(h, m.Tree(h))
		for _, k := range append(plain.Keys(), m.Keys()...) {
			expect(t, m.Name, passed, h, root[:], absent(k), b)
			expect(t, m.Name, 4, h, root[:], present(k, nil), b)
		}
	}
}
