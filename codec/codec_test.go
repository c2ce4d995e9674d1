package codec

import (
	"bytes"
	"slices"
	"sync"
	"testing"

	"sparsetree/api"
	"sparsetree/digest"
	"sparsetree/internal/plain"
	"sparsetree/node"
	"sparsetree/proof"
)

// checkProof checks all functions for a well-formed proof.
func checkProof(t *testing.T, p api.Proof) {
	t.Helper()
	want := plain.Encoding(p)
	if n := Size(p); n != len(want) || n > 36+64+32*len(p.Siblings) {
		t.Fatalf("%x: Size = %d, want %d", p, n, len(want))
	}
	if b, errno := Encode(p); errno != api.OK || !bytes.Equal(b, want) {
		t.Fatalf("%x: Encode = %x, %v, want %x", p, b, errno, want)
	}
	if q, errno := Decode(want); errno != api.OK || !plain.SameProof(q, p) {
		t.Fatalf("%x: Decode = %x, %v, want %x", want, q, errno, p)
	}
	if kind, errno := Kind(want); errno != api.OK || kind != p.Kind {
		t.Fatalf("%x: Kind = %d, %v", want, kind, errno)
	}
}

// checkBytes checks Decode of any bytes, and Encode of the proof with the encoding if there is one. It returns the error of Decode.
func checkBytes(t *testing.T, name string, b []byte) api.Errno {
	t.Helper()
	p, errno := Decode(b)
	if want := plain.DecodeError(b); errno != want {
		t.Fatalf("%s: Decode of %x = %x, %v, want %v", name, b, p, errno, want)
	}
	if errno != api.OK {
		if !plain.SameProof(p, api.Proof{}) {
			t.Fatalf("%s: Decode of %x = %x together with the error %v", name, b, p, errno)
		}
		return errno
	}
	again, second := Encode(p)
	if second != api.OK || !bytes.Equal(again, b) || !bytes.Equal(plain.Encoding(p), b) {
		t.Fatalf("%s: Encode of %x = %x, %v, want %x", name, p, again, second, b)
	}
	if proof.Check(p) != api.OK || Size(p) != len(b) {
		t.Fatalf("%s: Decode of %x = %x, which is not well-formed, or has the Size %d", name, b, p, Size(p))
	}
	return errno
}

// checkAll checks Decode of several bytes, and that each of some errors is returned for one of them.
func checkAll(t *testing.T, want []api.Errno, each func(check func(name string, b []byte))) {
	t.Helper()
	seen := map[api.Errno]bool{}
	each(func(name string, b []byte) {
		t.Helper()
		seen[checkBytes(t, name, b)] = true
	})
	for _, errno := range want {
		if !seen[errno] {
			t.Errorf("Decode never returned %v", errno)
		}
	}
}

// lengths are the numbers of bytes around those after which the parts of an encoding end.
func lengths() []int {
	return []int{0, 1, 2, 3, 4, 5, 35, 36, 37, 67, 68, 69, 99, 100, 101, 131, 132, 133, 163, 164, 165}
}

// marked returns an encoding with other numbers of version and kind.
func marked(b []byte, version, kind int) []byte {
	b = slices.Clone(b)
	for i, x := range []int{version, kind} {
		if i < len(b) {
			b[i] = byte(x)
		}
	}
	return b
}

// P17.1, P17.2 and P17.5: siblings at no depth, at all, at the last one only, and at some.
func TestWellFormedProofs(t *testing.T) {
	for _, p := range plain.GoodProofs() {
		checkProof(t, p)
	}
	for _, leaf := range plain.SomeLeaves() {
		checkProof(t, api.Proof{Kind: 1, Leaf: leaf})
	}
}

// P17.1, P17.2 and P17.5
func TestProofsOfEachDepth(t *testing.T) {
	for d := 1; d <= 256; d++ {
		for kind := range 2 {
			checkProof(t, plain.Formed(kind, d-1))
			checkProof(t, plain.Formed(kind, plain.From(0, d-1)...))
			checkProof(t, plain.Formed(kind, append(plain.From(0, (d-1)/2-1), d-1)...))
		}
	}
}

// P17.1 and P17.2: proofs with a single sibling, of depths with one byte and with two.
func TestEncodeByteByByte(t *testing.T) {
	zeros := func(n int) []byte { return make([]byte, n) }
	leaf := api.Leaf{Key: api.Key{7, 31: 8}, Value: api.Digest{9, 31: 10}}
	pair := slices.Concat([]byte{7}, zeros(30), []byte{8, 9}, zeros(30), []byte{10})
	beside := []api.Digest{{11, 31: 12}}
	last := slices.Concat([]byte{11}, zeros(30), []byte{12})
	for _, c := range []struct {
		p    api.Proof
		want []byte
	}{
		{api.Proof{}, slices.Concat([]byte{1, 0, 0, 0}, zeros(32))},
		{api.Proof{Kind: 1, Leaf: leaf}, slices.Concat([]byte{1, 1, 0, 0}, zeros(32), pair)},
		{api.Proof{Depth: 1, Bitmap: [32]byte{128}, Siblings: beside}, slices.Concat([]byte{1, 0, 0, 1, 128}, zeros(31), last)},
		{api.Proof{Kind: 1, Leaf: leaf, Depth: 2, Bitmap: [32]byte{64}, Siblings: beside}, slices.Concat([]byte{1, 1, 0, 2, 64}, zeros(31), pair, last)},
		{api.Proof{Depth: 255, Bitmap: [32]byte{31: 2}, Siblings: beside}, slices.Concat([]byte{1, 0, 0, 255}, zeros(31), []byte{2}, last)},
		{api.Proof{Depth: 256, Bitmap: [32]byte{31: 1}, Siblings: beside}, slices.Concat([]byte{1, 0, 1, 0}, zeros(31), []byte{1}, last)},
		{api.Proof{Kind: 1, Leaf: leaf, Depth: 256, Bitmap: [32]byte{31: 1}, Siblings: beside}, slices.Concat([]byte{1, 1, 1, 0}, zeros(31), []byte{1}, pair, last)},
	} {
		b, errno := Encode(c.p)
		if errno != api.OK || !bytes.Equal(b, c.want) || Size(c.p) != len(c.want) {
			t.Errorf("%x: Encode = %x, %v, Size = %d, want %x", c.p, b, errno, Size(c.p), c.want)
		}
		if q, errno := Decode(c.want); errno != api.OK || !plain.SameProof(q, c.p) {
			t.Errorf("%x: Decode = %x, %v, want %x", c.want, q, errno, c.p)
		}
	}
}

// P17.1, P17.2 and P17.5: the proofs of maps, for keys that are in the map, and for others.
func TestProofsOfMaps(t *testing.T) {
	ends, depths := map[string]bool{}, map[int]bool{}
	plain.EachQuery([]int{0, 12, 256}, func(h *digest.Hasher, m plain.Map, n *node.Node, k api.Key) {
		p := proof.Prove(h, n, k)
		checkProof(t, p)
		ends[plain.EndOf(p, k)], depths[p.Depth] = true, true
	})
	if len(ends) != 3 || !depths[0] || !depths[1] || !depths[2] || !depths[255] || !depths[256] {
		t.Errorf("ends %v, depths %v", ends, depths)
	}
}

// P17.1, P17.2 and P17.5: the maps of two keys that differ in one bit, from the first to the last one.
func TestProofsOfTwoKeys(t *testing.T) {
	h := plain.Hasher(256)
	a := plain.Filled(0x96)
	for i := range 256 {
		n := plain.OfKeys("two", a, plain.Flipped(a, i)).Tree(h)
		for _, k := range []api.Key{a, plain.Flipped(a, i), plain.Flipped(a, i/2), plain.Flipped(a, 255)} {
			p := proof.Prove(h, n, k)
			checkProof(t, p)
			if len(p.Siblings) != 1 || Size(p) != 68+64*p.Kind {
				t.Fatalf("keys that differ in bit %d: Size of the proof for %x = %d", i, k, Size(p))
			}
		}
	}
}

// P17.1 and P17.2: each kind and each form that is wrong, and both at the same time.
func TestMalformedProofs(t *testing.T) {
	check := func(name string, p api.Proof, want api.Errno) {
		if n := Size(p); n != 0 {
			t.Fatalf("%s: Size of %x = %d", name, p, n)
		}
		if b, errno := Encode(p); len(b) != 0 || errno != want {
			t.Fatalf("%s: Encode of %x = %x, %v, want %v", name, p, b, errno, want)
		}
	}
	for _, p := range plain.GoodProofs() {
		for _, b := range plain.Breaks(p) {
			check(b.Name, b.Proof, b.Errno)
			for _, kind := range plain.BadKinds() {
				b.Proof.Kind = kind
				check("kind and "+b.Name, b.Proof, api.ErrKind)
			}
		}
	}
}

// P17.3: each first byte and each second one, with nothing behind them, and with more.
func TestKindOfEachByte(t *testing.T) {
	whole := slices.Repeat([]byte{7}, 165)
	for _, n := range lengths() {
		for first := range 256 {
			for second := range 256 {
				want, wrong := second, api.OK
				switch {
				case n < 2:
					want, wrong = 0, api.ErrForm
				case first != 1:
					want, wrong = 0, api.ErrVersion
				}
				b := marked(whole[:n], first, second)
				if kind, errno := Kind(b); kind != want || errno != wrong {
					t.Fatalf("Kind of %x = %d, %v, want %d, %v", b, kind, errno, want, wrong)
				}
			}
		}
	}
}

// P17.3 and P17.4
func TestNoBytes(t *testing.T) {
	for _, b := range [][]byte{nil, {}, plain.Encoding(api.Proof{})[:0]} {
		if kind, errno := Kind(b); kind != 0 || errno != api.ErrForm {
			t.Errorf("Kind = %d, %v", kind, errno)
		}
		if p, errno := Decode(b); errno != api.ErrForm || !plain.SameProof(p, api.Proof{}) {
			t.Errorf("Decode = %x, %v", p, errno)
		}
	}
}

// P17.4: each version with each kind, in bytes of lengths that are too short, right and too long.
func TestDecodeOfEachVersionAndKind(t *testing.T) {
	checkAll(t, []api.Errno{api.OK, api.ErrForm, api.ErrVersion, api.ErrKind}, func(check func(name string, b []byte)) {
		for _, start := range [][]byte{{1, 0}, {1, 0, 0, 1, 128}, {1, 0, 0, 2, 192}, {1, 0, 0, 3, 224}, {1, 0, 1, 1, 128}, slices.Repeat([]byte{255}, 165)} {
			whole := append(slices.Clone(start), make([]byte, 165-len(start))...)
			for _, n := range lengths() {
				for version := range 256 {
					for kind := range 256 {
						check("version and kind", marked(whole[:n], version, kind))
					}
				}
			}
		}
	})
}

// P17.4: the errors by the number of bytes, the version and the kind, in this order, written out.
func TestDecodeReturnsTheFirstError(t *testing.T) {
	for _, c := range []struct {
		n, version, kind int
		want             api.Errno
	}{
		{2, 1, 0, api.ErrForm}, {2, 0, 0, api.ErrForm}, {35, 1, 0, api.ErrForm}, {35, 1, 2, api.ErrForm}, {35, 0, 0, api.ErrForm}, {35, 2, 2, api.ErrForm},
		{36, 0, 0, api.ErrVersion}, {36, 2, 0, api.ErrVersion}, {36, 255, 1, api.ErrVersion}, {36, 0, 2, api.ErrVersion}, {37, 2, 255, api.ErrVersion}, {132, 129, 3, api.ErrVersion},
		{36, 1, 2, api.ErrKind}, {36, 1, 3, api.ErrKind}, {36, 1, 255, api.ErrKind}, {37, 1, 2, api.ErrKind}, {100, 1, 128, api.ErrKind}, {101, 1, 129, api.ErrKind},
		{36, 1, 0, api.OK}, {37, 1, 0, api.ErrForm}, {67, 1, 0, api.ErrForm}, {68, 1, 0, api.ErrForm}, {100, 1, 0, api.ErrForm}, {132, 1, 0, api.ErrForm},
		{36, 1, 1, api.ErrForm}, {37, 1, 1, api.ErrForm}, {68, 1, 1, api.ErrForm}, {99, 1, 1, api.ErrForm}, {100, 1, 1, api.OK}, {101, 1, 1, api.ErrForm}, {131, 1, 1, api.ErrForm}, {132, 1, 1, api.ErrForm},
	} {
		p, errno := Decode(marked(make([]byte, c.n), c.version, c.kind))
		want := api.Proof{}
		if c.want == api.OK {
			want.Kind = c.kind
		}
		if errno != c.want || !plain.SameProof(p, want) {
			t.Errorf("%d bytes, version %d, kind %d: Decode = %x, %v, want %v", c.n, c.version, c.kind, p, errno, c.want)
		}
	}
}

// P17.4 and P17.5: encodings that are cut anywhere, and such with up to three parts more.
func TestDecodeOfEachLength(t *testing.T) {
	checkAll(t, []api.Errno{api.OK, api.ErrForm}, func(check func(name string, b []byte)) {
		for _, p := range plain.GoodProofs() {
			b := plain.Encoding(p)
			whole := append(slices.Clone(b), make([]byte, 100)...)
			for n := range len(whole) + 1 {
				if n < 200 || n%32 < 9 || n > len(b)-40 {
					check("length", whole[:n])
				}
			}
		}
	})
}

// P17.4 and P17.5: each byte of the first parts and of the last one, changed in one bit or in all.
func TestDecodeOfChangedBytes(t *testing.T) {
	checkAll(t, []api.Errno{api.OK, api.ErrForm, api.ErrVersion, api.ErrKind}, func(check func(name string, b []byte)) {
		for _, p := range plain.GoodProofs() {
			b := plain.Encoding(p)
			for i := range b {
				if i >= 132 && i < len(b)-32 {
					continue
				}
				for _, x := range []byte{1, 2, 64, 128, 255} {
					changed := slices.Clone(b)
					changed[i] ^= x
					check("changed byte", changed)
				}
			}
		}
	})
}

// P17.4 and P17.5: bytes, whole parts and two parts, too few or too many, wherever a part begins.
func TestDecodeOfPartsTooFewOrTooMany(t *testing.T) {
	checkAll(t, []api.Errno{api.ErrForm, api.ErrVersion, api.ErrKind}, func(check func(name string, b []byte)) {
		for _, p := range plain.GoodProofs() {
			b := plain.Encoding(p)
			starts := []int{0, 1, 2, 3, 4}
			for i := 36; i <= len(b); i += 32 {
				starts = append(starts, i)
			}
			for _, i := range starts {
				for _, n := range []int{1, 2, 31, 32, 33, 64, 96} {
					check("too many", slices.Concat(b[:i], make([]byte, n), b[i:]))
					check("too many", slices.Concat(b[:i], slices.Repeat([]byte{255}, n), b[i:]))
					check("too few", slices.Concat(b[:i], b[min(i+n, len(b)):]))
				}
			}
		}
	})
}

// P17.4: of all numbers that two bytes can say, one is the depth.
func TestDecodeOfEachDepth(t *testing.T) {
	for _, p := range []api.Proof{{}, {Kind: 1}, plain.Formed(0, 0), plain.Formed(1, 0, 1), plain.Formed(0, 254), plain.Formed(1, 255), plain.Formed(0, 0, 255)} {
		b := plain.Encoding(p)
		for depth := range 1 << 16 {
			b[2], b[3] = byte(depth/256), byte(depth%256)
			if errno := checkBytes(t, "depth", b); (errno == api.OK) != (depth == p.Depth) {
				t.Fatalf("%x with the depth %d: %v", p, depth, errno)
			}
		}
	}
}

// P17.4: depths beyond 256, with siblings at all depths.
func TestDecodeOfDepthsThatAreTooGreat(t *testing.T) {
	for kind := range 2 {
		b := plain.Encoding(plain.Formed(kind, plain.From(0, 255)...))
		for _, depth := range []int{257, 258, 511, 512, 768, 32768, 65280, 65535} {
			b[2], b[3] = byte(depth/256), byte(depth%256)
			for _, n := range []int{len(b), len(b) + 32} {
				if p, errno := Decode(append(slices.Clone(b), make([]byte, n-len(b))...)); errno != api.ErrForm || !plain.SameProof(p, api.Proof{}) {
					t.Errorf("kind %d, depth %d, %d bytes: Decode = %x, %v", kind, depth, n, p, errno)
				}
			}
		}
	}
}

// P17.4: bitmaps with one depth more or less, and as many siblings as before, one more or one less.
func TestDecodeOfOtherBitmaps(t *testing.T) {
	checkAll(t, []api.Errno{api.OK, api.ErrForm}, func(check func(name string, b []byte)) {
		for _, p := range plain.GoodProofs() {
			for i := range 256 {
				q := plain.CopyOf(p)
				q.Bitmap = [32]byte(plain.Flipped(api.Key(q.Bitmap), i))
				check("as many", plain.Encoding(q))
				q.Siblings = append(q.Siblings, api.Digest{1})
				check("one more", plain.Encoding(q))
				if q.Siblings = p.Siblings; len(q.Siblings) > 0 {
					q.Siblings = p.Siblings[1:]
					check("one less", plain.Encoding(q))
				}
			}
		}
	})
}

// P17.4: bitmaps without depths, and ones that do not have the last depth, with the right number of siblings.
func TestDecodeOfWrongLastDepths(t *testing.T) {
	for kind := range 2 {
		for d := 1; d <= 256; d++ {
			empty := plain.Formed(kind)
			empty.Depth = d
			early, late := plain.Formed(kind, 0, d-1), plain.Formed(kind, d-1)
			early.Depth, late.Depth = d+1, d-1
			for _, p := range []api.Proof{empty, early, late} {
				if q, errno := Decode(plain.Encoding(p)); errno != api.ErrForm || !plain.SameProof(q, api.Proof{}) {
					t.Fatalf("%x: Decode = %x, %v", p, q, errno)
				}
			}
		}
	}
}

// P17.4: more than 256 siblings, and numbers of them whose low bits are those of the right number.
func TestDecodeOfTooManySiblings(t *testing.T) {
	for kind := range 2 {
		for _, depths := range [][]int{nil, {0}, {1}, {255}, {0, 255}, plain.From(0, 254), plain.From(1, 255), plain.From(0, 255)} {
			for _, more := range []int{1, 2, 3, 255, 256, 257, 512, 1 << 16} {
				p := plain.Formed(kind, depths...)
				p.Siblings = append(p.Siblings, make([]api.Digest, more)...)
				if q, errno := Decode(plain.Encoding(p)); errno != api.ErrForm || !plain.SameProof(q, api.Proof{}) {
					t.Fatalf("kind %d, siblings at %v, and %d more: Decode = %x, %v", kind, depths, more, q, errno)
				}
			}
		}
	}
}

// P1 of the document: bytes that are too long for a proof do not take memory of their own size.
func TestDecodeOfLongBytesTakesNoMemory(t *testing.T) {
	b := append(plain.Encoding(plain.Formed(0, plain.From(0, 255)...)), make([]byte, 1<<24)...)
	if n := testing.AllocsPerRun(4, func() { Decode(b) }); n > 0 {
		t.Errorf("Decode of %d bytes takes memory %v times", len(b), n)
	}
}

// P17.4 and P17.5: a leaf in a proof that has none is read as two siblings, and two siblings as a leaf.
func TestDecodeOfLeaves(t *testing.T) {
	for _, depths := range plain.DepthLists() {
		full, empty := plain.Encoding(plain.Formed(1, depths...)), plain.Encoding(plain.Formed(0, depths...))
		for name, b := range map[string][]byte{"leaf without kind": marked(full, 1, 0), "kind without leaf": marked(empty, 1, 1)} {
			if errno := checkBytes(t, name, b); errno != api.ErrForm {
				t.Errorf("%s, siblings at %v: %v", name, depths, errno)
			}
		}
	}
	three, one := plain.Formed(0, 0, 1, 2), plain.Formed(1, 2)
	as := plain.Encoding(one)
	as[1], as[4] = 0, 224
	if p, errno := Decode(as); errno != api.OK || p.Leaf != (api.Leaf{}) || !slices.Equal(p.Siblings, []api.Digest{api.Digest(one.Leaf.Key), one.Leaf.Value, one.Siblings[0]}) {
		t.Errorf("the leaf as siblings: %x, %v", p, errno)
	}
	as = plain.Encoding(three)
	as[1], as[4] = 1, 32
	if p, errno := Decode(as); errno != api.OK || p.Leaf != (api.Leaf{Key: api.Key(three.Siblings[0]), Value: three.Siblings[1]}) || !slices.Equal(p.Siblings, three.Siblings[2:]) {
		t.Errorf("the siblings as a leaf: %x, %v", p, errno)
	}
}

// P17.4 and P17.5: bytes that look like random ones behind the first few.
func TestDecodeOfScatteredBytes(t *testing.T) {
	checkAll(t, []api.Errno{api.OK, api.ErrForm, api.ErrVersion, api.ErrKind}, func(check func(name string, b []byte)) {
		for seed := range 20000 {
			l := plain.Scattered(uint64(1000*seed), 9)
			x := l[8]
			b := []byte{1, x[0] % 2, 0, x[1] % 5, x[2] & 0xf0, 31 + 4: 0}
			for _, k := range l[:x[3]%8] {
				b = append(b, k[:]...)
			}
			switch x[4] % 32 {
			case 0, 1:
				b[x[4]%32] = x[5]
			case 2:
				b = b[:x[5]%36]
			case 3:
				b[2+x[5]%34] ^= x[6]
			}
			check("scattered bytes", b)
			check("only scattered bytes", marked(l[0][:], 1, 0))
			check("only scattered bytes", marked(slices.Concat(l[0][:], l[1][:]), 1, int(x[0]%2)))
		}
	})
}

// P17.5: different proofs have different encodings.
func TestEncodingsDiffer(t *testing.T) {
	seen := map[string]api.Proof{}
	for _, p := range plain.GoodProofs() {
		b, errno := Encode(p)
		if q, found := seen[string(b)]; errno != api.OK || found && !plain.SameProof(p, q) {
			t.Errorf("%x and %x are both encoded by %x, %v", p, q, b, errno)
		}
		seen[string(b)] = p
	}
}

// Rule 4 of the document: no function changes a proof, or what is behind its Siblings.
func TestProofsAreNotChanged(t *testing.T) {
	for _, p := range plain.Changed(func(p api.Proof) {
		Size(p)
		Encode(p)
	}) {
		t.Errorf("%x is changed", p)
	}
}

// Rule 4 of the document: no function changes the bytes, and what is behind them is neither read nor written.
func TestBytesAreNotChanged(t *testing.T) {
	for _, p := range plain.GoodProofs() {
		whole := append(plain.Encoding(p), 1, 2, 3)
		for _, n := range []int{0, 1, 2, 35, 36, 68, 100, 132, len(whole) - 4, len(whole) - 3, len(whole) - 2} {
			b := whole[:min(n, len(whole))]
			before := slices.Clone(whole)
			Kind(b)
			checkBytes(t, "with others behind them", b)
			if !bytes.Equal(whole, before) {
				t.Fatalf("%x: changed to %x", before, whole)
			}
		}
	}
}

// Rule 4 of the document: what was given and what was returned may be changed, with what is behind it; no other result changes.
func TestResultsShareNoMemory(t *testing.T) {
	for _, p := range plain.GoodProofs() {
		before, want := plain.CopyOf(p), plain.Encoding(p)
		b, _ := Encode(p)
		kept, _ := Encode(p)
		clear(b[:cap(b)])
		clear(p.Siblings)
		if !bytes.Equal(kept, want) || !plain.SameProof(p, api.Proof{Kind: p.Kind, Depth: p.Depth, Leaf: p.Leaf, Bitmap: p.Bitmap, Siblings: make([]api.Digest, len(p.Siblings))}) {
			t.Fatalf("%x: after a result and the proof were changed: %x, %x", before, kept, p)
		}
		q, _ := Decode(want)
		keptProof, _ := Decode(want)
		clear(q.Siblings[:cap(q.Siblings)])
		if !bytes.Equal(want, kept) {
			t.Fatalf("%x: after the Siblings were changed: the bytes %x", before, want)
		}
		clear(want)
		if !plain.SameProof(keptProof, before) {
			t.Fatalf("%x: after a result and the bytes were changed: %x", before, keptProof)
		}
	}
}

// Rule 6 of the document: the functions may be called concurrently.
func TestConcurrentCalls(t *testing.T) {
	proofs := plain.GoodProofs()
	var wait sync.WaitGroup
	for range 8 {
		wait.Go(func() {
			for _, p := range proofs {
				b, _ := Encode(p)
				q, errno := Decode(b)
				kind, _ := Kind(b)
				if errno != api.OK || !bytes.Equal(b, plain.Encoding(p)) || !plain.SameProof(p, q) || kind != p.Kind || Size(p) != len(b) {
					t.Errorf("other results for %x", p)
				}
			}
		})
	}
	wait.Wait()
}

// The example of the chapter.
func TestExample(t *testing.T) {
	want := append([]byte{1}, make([]byte, 35)...)
	if b, errno := Encode(api.Proof{}); errno != api.OK || !bytes.Equal(b, want) || Size(api.Proof{}) != 36 {
		t.Errorf("Encode = %x, %v, Size = %d", b, errno, Size(api.Proof{}))
	}
	if p, errno := Decode(want); errno != api.OK || !plain.SameProof(p, api.Proof{}) {
		t.Errorf("Decode = %x, %v", p, errno)
	}
	if kind, errno := Kind(want); errno != api.OK || kind != api.Empty {
		t.Errorf("Kind = %d, %v", kind, errno)
	}
}
