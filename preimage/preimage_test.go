package preimage

import (
	"bytes"
	"crypto/sha256"
	"math/big"
	"math/rand"
	"slices"
	"strconv"
	"testing"

	"sparsetree/api"
	"sparsetree/digest"
)

// filled returns the 32 bytes that are all x.
func filled(x byte) [32]byte { return [32]byte(bytes.Repeat([]byte{x}, 32)) }

// counting returns the 32 bytes that count from first on.
func counting(first byte) [32]byte {
	var b [32]byte
	for i := range b {
		b[i] = first + byte(i)
	}
	return b
}

// parts are keys and digests: the least and the greatest, mixed ones, and those with a single byte.
func parts() [][32]byte {
	l := [][32]byte{{}, filled(255), filled(1), filled(2), filled(3), counting(1), counting(100), counting(200), {255, 255}, {31: 255}}
	for i := range 5 {
		l = append(l, sha256.Sum256([]byte{byte(i)}))
	}
	for i := range 32 {
		var b [32]byte
		b[i] = byte(i + 1)
		l = append(l, b)
	}
	return l
}

// values are values of no bytes, of each single byte, that look like preimages, and of all lengths around theirs; and long ones.
func values() [][]byte {
	l := [][]byte{nil, {}, make([]byte, 65535), bytes.Repeat([]byte{255}, 65535), make([]byte, 65536), bytes.Repeat([]byte{7}, 1<<20)}
	for x := range 256 {
		l = append(l, []byte{byte(x)})
	}
	for n := range 140 {
		l = append(l, bytes.Repeat([]byte{byte(n)}, n), make([]byte, n))
	}
	k, d := counting(1), counting(100)
	return append(l, Leaf(api.Leaf{Key: k, Value: d}), Node(k, d), Value([]byte{7}), Empty())
}

// joined are bytes one after the other, independently of the package.
func joined(first byte, pieces ...[]byte) []byte {
	return append([]byte{first}, bytes.Join(pieces, nil)...)
}

// long returns n bytes with a first one (if there is room for it) and contents of a kind.
func long(first byte, n int, contents byte) []byte {
	b := bytes.Repeat([]byte{contents}, n)
	if n > 0 {
		b[0] = first
	}
	return b
}

// wantKind is the kind of b as the chapter describes it.
func wantKind(b []byte) int {
	switch {
	case len(b) == 65 && b[0] == 0:
		return 0
	case len(b) == 65 && b[0] == 1:
		return 1
	case len(b) > 0 && b[0] == 2:
		return 2
	case len(b) == 1 && b[0] == 3:
		return 3
	}
	return -1
}

// candidates are bytes of many lengths with each first byte, most of which are no preimages.
func candidates() [][]byte {
	l := [][]byte{nil, {}}
	for first := range 256 {
		for _, n := range []int{1, 2, 3, 31, 32, 33, 34, 63, 64, 65, 66, 67, 97, 128, 129, 130, 256 + 65} {
			for _, contents := range []byte{0, 1, 2, 3, 255} {
				l = append(l, long(byte(first), n, contents))
			}
		}
	}
	for first := range byte(5) {
		for n := range 200 {
			l = append(l, long(first, n, 9))
		}
		l = append(l, long(first, 65536, 0), long(first, 65536+65, 1))
	}
	r := rand.New(rand.NewSource(6))
	for range 2000 {
		b := make([]byte, 60+r.Intn(10))
		r.Read(b)
		b[0] &= 3
		l = append(l, b)
	}
	return l
}

// hasher returns a hasher for n bits, from 0 to 256.
func hasher(t *testing.T, n int) *digest.Hasher {
	t.Helper()
	h, errno := digest.New(n)
	if h == nil || errno != api.OK {
		t.Fatalf("New(%d) = %v, %v", n, h, errno)
	}
	return h
}

// wantSum is the digest of bytes for n bits, from the standard library.
func wantSum(b []byte, n int) api.Digest {
	sum := sha256.Sum256(b)
	x := new(big.Int).SetBytes(sum[:])
	x.Rsh(x, uint(256-n))
	x.Lsh(x, uint(256-n))
	var want api.Digest
	x.FillBytes(want[:])
	return want
}

// checkBytes checks bytes that a call returned.
func checkBytes(t *testing.T, call string, got, want []byte) {
	t.Helper()
	if !bytes.Equal(got, want) {
		t.Errorf("%s = %.80x (%d bytes), want %.80x (%d bytes)", call, got, len(got), want, len(want))
	}
}

// checkLeaf checks what SplitLeaf says of b.
func checkLeaf(t *testing.T, b []byte, want api.Leaf, wantOK bool) {
	t.Helper()
	if l, ok := SplitLeaf(b); l != want || ok != wantOK {
		t.Errorf("SplitLeaf(%.80x, %d bytes) = %x, %v, want %x, %v", b, len(b), l, ok, want, wantOK)
	}
}

// checkNode checks what SplitNode says of b.
func checkNode(t *testing.T, b []byte, wantLeft, wantRight api.Digest, wantOK bool) {
	t.Helper()
	if left, right, ok := SplitNode(b); left != wantLeft || right != wantRight || ok != wantOK {
		t.Errorf("SplitNode(%.80x, %d bytes) = %x, %x, %v, want %x, %x, %v", b, len(b), left, right, ok, wantLeft, wantRight, wantOK)
	}
}

// checkNeither checks that b is neither the preimage of a leaf nor that of a node.
func checkNeither(t *testing.T, b []byte) {
	t.Helper()
	checkLeaf(t, b, api.Leaf{}, false)
	checkNode(t, b, api.Digest{}, api.Digest{}, false)
}

// The constants are numbers without a type: they serve as first bytes and as results of Kind.
func TestKindsAreTheFirstBytes(t *testing.T) {
	for i, kind := range []byte{OfLeaf, OfNode, OfValue, OfEmpty} {
		if int(kind) != i {
			t.Errorf("kind %d is %d", i, kind)
		}
	}
	for i, kind := range []int{OfLeaf, OfNode, OfValue, OfEmpty} {
		if kind != i {
			t.Errorf("kind %d is %d", i, kind)
		}
	}
}

// P6.1
func TestLeafIsKeyAndDigestBehindZero(t *testing.T) {
	for _, k := range parts() {
		for _, v := range parts() {
			checkBytes(t, "Leaf", Leaf(api.Leaf{Key: k, Value: v}), joined(0, k[:], v[:]))
		}
	}
}

// P6.1
func TestNodeIsBothDigestsBehindOne(t *testing.T) {
	for _, left := range parts() {
		for _, right := range parts() {
			checkBytes(t, "Node", Node(left, right), joined(1, left[:], right[:]))
		}
	}
}

// P6.1: parts of zeros only and of 255 only, byte by byte.
func TestLeafAndNodeOfZerosAnd255(t *testing.T) {
	for _, c := range []struct{ a, b byte }{{0, 0}, {0, 255}, {255, 0}, {255, 255}} {
		leaf, inner := Leaf(api.Leaf{Key: filled(c.a), Value: filled(c.b)}), Node(filled(c.a), filled(c.b))
		if len(leaf) != 65 || len(inner) != 65 {
			t.Fatalf("%d and %d bytes", len(leaf), len(inner))
		}
		for i := range 65 {
			wantLeaf, wantInner := c.a, c.a
			switch {
			case i == 0:
				wantLeaf, wantInner = 0, 1
			case i > 32:
				wantLeaf, wantInner = c.b, c.b
			}
			if leaf[i] != wantLeaf || inner[i] != wantInner {
				t.Errorf("of %d and %d, byte %d of a leaf is %d, and of a node %d", c.a, c.b, i, leaf[i], inner[i])
			}
		}
	}
}

// P6.1
func TestValueIsTheBytesBehindTwo(t *testing.T) {
	for _, v := range values() {
		before := bytes.Clone(v)
		checkBytes(t, "Value", Value(v), joined(2, before))
		checkBytes(t, "the value afterwards", v, before)
	}
}

// P6.1
func TestValueOfNoBytes(t *testing.T) {
	for _, v := range [][]byte{nil, {}, []byte("abc")[:0]} {
		checkBytes(t, "Value", Value(v), []byte{2})
	}
}

// P6.1 and rule 4 of the document: the bytes behind a slice are neither read nor written.
func TestValueEndsWithTheSlice(t *testing.T) {
	all := []byte("0123456789")
	for n := range 11 {
		checkBytes(t, "Value", Value(all[:n]), joined(2, []byte("0123456789")[:n]))
		checkBytes(t, "Value without its first bytes", Value(all[n:]), joined(2, []byte("0123456789")[n:]))
		checkBytes(t, "what was given", all, []byte("0123456789"))
	}
}

// P6.1
func TestEmptyIsThreeAlone(t *testing.T) {
	for range 3 {
		checkBytes(t, "Empty", Empty(), []byte{3})
	}
}

// P6.1: the results share memory neither with each other nor with the arguments, not even behind their length.
func TestPreimagesAreNewlyAllocated(t *testing.T) {
	k, d, v := counting(1), counting(100), []byte("value")
	for name, call := range map[string]func() []byte{
		"Leaf":             func() []byte { return Leaf(api.Leaf{Key: k, Value: d}) },
		"Node":             func() []byte { return Node(k, d) },
		"Value":            func() []byte { return Value(v) },
		"Value of nothing": func() []byte { return Value(nil) },
		"Empty":            func() []byte { return Empty() },
	} {
		first, second := call(), call()
		want := bytes.Clone(first)
		for i := range first[:cap(first)] {
			first[:cap(first)][i] ^= 255
		}
		checkBytes(t, name+" of the call before", second, want)
		checkBytes(t, name+" of a later call", call(), want)
		if k != counting(1) || d != counting(100) || string(v) != "value" {
			t.Errorf("%s: a change of the result changed an argument", name)
		}
	}
}

// P6.1 and rule 4 of the document: what was given may be changed after the call, and counts in the next one.
func TestPreimagesKeepNothingOfTheArguments(t *testing.T) {
	l, left, right, v := api.Leaf{Key: counting(1), Value: counting(100)}, counting(1), counting(100), []byte{1, 2, 3}
	leaf, inner, value := Leaf(l), Node(left, right), Value(v)
	l.Key[0], l.Value[31], left[0], right[31], v[0], v[2] = 77, 78, 77, 78, 77, 78
	a, b := counting(1), counting(100)
	checkBytes(t, "Leaf", leaf, joined(0, a[:], b[:]))
	checkBytes(t, "Node", inner, joined(1, a[:], b[:]))
	checkBytes(t, "Value", value, []byte{2, 1, 2, 3})
	a[0], b[31] = 77, 78
	checkBytes(t, "the next Leaf", Leaf(l), joined(0, a[:], b[:]))
	checkBytes(t, "the next Node", Node(left, right), joined(1, a[:], b[:]))
	checkBytes(t, "the next Value", Value(v), []byte{2, 77, 2, 78})
}

// P6.2
func TestKindOfPreimages(t *testing.T) {
	for _, k := range parts() {
		if got := Kind(Leaf(api.Leaf{Key: k, Value: k})); got != OfLeaf {
			t.Errorf("Kind of a leaf = %d", got)
		}
		if got := Kind(Node(k, k)); got != OfNode {
			t.Errorf("Kind of a node = %d", got)
		}
	}
	for _, v := range values() {
		if got := Kind(Value(v)); got != OfValue {
			t.Errorf("Kind of a value of %d bytes = %d", len(v), got)
		}
	}
	if got := Kind(Empty()); got != OfEmpty {
		t.Errorf("Kind of an empty subtree = %d", got)
	}
}

// P6.2: the lengths around those of preimages.
func TestKindOfLengthsAndFirstBytes(t *testing.T) {
	const none = -1
	want := map[byte][6]int{ // of the lengths 0, 1, 2, 64, 65, 66
		0:   {none, none, none, none, 0, none},
		1:   {none, none, none, none, 1, none},
		2:   {none, 2, 2, 2, 2, 2},
		3:   {none, 3, none, none, none, none},
		4:   {none, none, none, none, none, none},
		255: {none, none, none, none, none, none},
	}
	for first, kinds := range want {
		for i, n := range []int{0, 1, 2, 64, 65, 66} {
			for contents := range 256 {
				if got := Kind(long(first, n, byte(contents))); got != kinds[i] {
					t.Errorf("Kind of %d, with %d bytes in all, of %d = %d, want %d", first, n, contents, got, kinds[i])
				}
			}
		}
	}
}

// P6.2
func TestKindOfManyBytes(t *testing.T) {
	for _, b := range candidates() {
		before := bytes.Clone(b)
		if got, want := Kind(b), wantKind(b); got != want {
			t.Errorf("Kind(%.80x, %d bytes) = %d, want %d", b, len(b), got, want)
		}
		checkBytes(t, "what Kind was given", b, before)
	}
}

// P6.2 and P6.3, and rule 4 of the document: the capacity does not matter.
func TestPreimagesEndWithTheSlice(t *testing.T) {
	for first := range byte(5) {
		all := long(first, 200, 6)
		for n := range 201 {
			b := all[:n]
			alone := slices.Clip(bytes.Clone(b))
			if got, want := Kind(b), wantKind(b); got != want {
				t.Errorf("Kind of %d of 200 bytes with %d = %d, want %d", n, first, got, want)
			}
			leaf, isLeaf := SplitLeaf(alone)
			checkLeaf(t, b, leaf, isLeaf)
			left, right, isNode := SplitNode(alone)
			checkNode(t, b, left, right, isNode)
		}
	}
}

// P6.3
func TestSplitLeafOfLeaves(t *testing.T) {
	for _, k := range parts() {
		for _, v := range parts() {
			b := joined(0, k[:], v[:])
			checkLeaf(t, b, api.Leaf{Key: k, Value: v}, true)
			checkNode(t, b, api.Digest{}, api.Digest{}, false)
			checkBytes(t, "what was given", b, joined(0, k[:], v[:]))
		}
	}
}

// P6.3
func TestSplitNodeOfNodes(t *testing.T) {
	for _, left := range parts() {
		for _, right := range parts() {
			b := joined(1, left[:], right[:])
			checkNode(t, b, left, right, true)
			checkLeaf(t, b, api.Leaf{}, false)
			checkBytes(t, "what was given", b, joined(1, left[:], right[:]))
		}
	}
}

// P6.3: together with false, all other results are zero.
func TestSplitOfManyBytes(t *testing.T) {
	for _, b := range candidates() {
		switch wantKind(b) {
		case 0:
			checkLeaf(t, b, api.Leaf{Key: api.Key(b[1:33]), Value: api.Digest(b[33:])}, true)
			checkNode(t, b, api.Digest{}, api.Digest{}, false)
		case 1:
			checkLeaf(t, b, api.Leaf{}, false)
			checkNode(t, b, api.Digest(b[1:33]), api.Digest(b[33:]), true)
		default:
			checkNeither(t, b)
		}
	}
}

// P6.3: the bytes of the lengths 0, 1, 2, 64, 65 and 66, with each first byte that matters.
func TestSplitOfLengthsAndFirstBytes(t *testing.T) {
	for _, first := range []byte{0, 1, 2, 3, 4, 255} {
		for _, n := range []int{0, 1, 2, 64, 65, 66} {
			for _, contents := range []byte{0, 1, 2, 3, 255} {
				b, f := long(first, n, contents), filled(contents)
				switch {
				case first == 0 && n == 65:
					checkLeaf(t, b, api.Leaf{Key: f, Value: f}, true)
				case first == 1 && n == 65:
					checkNode(t, b, f, f, true)
				default:
					checkNeither(t, b)
				}
			}
		}
	}
	checkNeither(t, nil)
}

// P6.3
func TestSplitOfOtherKinds(t *testing.T) {
	k, d := counting(1), counting(100)
	checkNode(t, Leaf(api.Leaf{Key: k, Value: d}), api.Digest{}, api.Digest{}, false)
	checkLeaf(t, Node(k, d), api.Leaf{}, false)
	checkNeither(t, Empty())
	for _, v := range values() {
		checkNeither(t, Value(v))
	}
}

// P6.2 and P6.3: a value that is the preimage of a leaf, or looks like it behind its first byte.
func TestValueThatLooksLikeALeafOrANode(t *testing.T) {
	k, d := counting(1), counting(100)
	leaf, inner := Leaf(api.Leaf{Key: k, Value: d}), Node(k, d)
	for _, v := range [][]byte{leaf, inner, leaf[1:], inner[1:], Empty(), Value(leaf[1:])} {
		b := Value(v)
		checkBytes(t, "Value", b, joined(2, v))
		if got := Kind(b); got != OfValue {
			t.Errorf("Kind(%x) = %d", b, got)
		}
		checkNeither(t, b)
		if bytes.Equal(b, leaf) || bytes.Equal(b, inner) {
			t.Errorf("the preimage of the value %x is that of a leaf or of a node", v)
		}
	}
	// Behind its first byte, the preimage of this value is that of the leaf.
	checkLeaf(t, Value(leaf)[1:], api.Leaf{Key: k, Value: d}, true)
	checkNode(t, Value(inner)[1:], k, d, true)
}

// P6.3 and rule 4 of the document: the bytes that were given may be changed after the call.
func TestSplitKeepsNothingOfTheArgument(t *testing.T) {
	k, d := counting(1), counting(100)
	leaf, inner := joined(0, k[:], d[:]), joined(1, k[:], d[:])
	l, _ := SplitLeaf(leaf)
	left, right, _ := SplitNode(inner)
	for i := 1; i < 65; i++ {
		leaf[i], inner[i] = 255, 254
	}
	if want := (api.Leaf{Key: k, Value: d}); l != want || left != k || right != d {
		t.Errorf("%x, %x and %x", l, left, right)
	}
	checkLeaf(t, leaf, api.Leaf{Key: filled(255), Value: filled(255)}, true)
	checkNode(t, inner, filled(254), filled(254), true)
	l.Key[0], l.Value[0] = 1, 1
	checkLeaf(t, leaf, api.Leaf{Key: filled(255), Value: filled(255)}, true)
	inner[0] = 0
	checkNode(t, inner, api.Digest{}, api.Digest{}, false)
	checkLeaf(t, inner, api.Leaf{Key: filled(254), Value: filled(254)}, true)
}

// P6.4: the leaf has the digest of the preimage of the value, and one digest is computed for it.
func TestLeafOfForEachNumberOfBits(t *testing.T) {
	k := counting(1)
	l := [][]byte{nil, {}, {0}, {7}, {255}, []byte("value"), make([]byte, 54), make([]byte, 55), make([]byte, 64), make([]byte, 1000)}
	for n := range 257 {
		h := hasher(t, n)
		for i, v := range l {
			want := api.Leaf{Key: k, Value: wantSum(joined(2, v), n)}
			if got := LeafOf(h, k, v); got != want {
				t.Errorf("with %d bits, LeafOf of %d bytes = %x, want %x", n, len(v), got, want)
			}
			if got := h.Calls(); got != i+1 {
				t.Errorf("with %d bits, %d calls after %d leaves", n, got, i+1)
			}
		}
	}
}

// P6.4: with 0 bits, the digest is zero; with 256 bits, it is that of SHA-256.
func TestLeafOfManyValues(t *testing.T) {
	none, all := hasher(t, 0), hasher(t, 256)
	for _, v := range values() {
		for _, k := range [][32]byte{{}, filled(255), counting(1)} {
			before := bytes.Clone(v)
			if got, want := LeafOf(none, k, v), (api.Leaf{Key: k}); got != want {
				t.Errorf("with 0 bits, LeafOf of %d bytes = %x, want %x", len(v), got, want)
			}
			want := api.Leaf{Key: k, Value: sha256.Sum256(joined(2, v))}
			if got := LeafOf(all, k, v); got != want {
				t.Errorf("with 256 bits, LeafOf of %d bytes = %x, want %x", len(v), got, want)
			}
			checkBytes(t, "the value afterwards", v, before)
		}
	}
	if want := 3 * len(values()); none.Calls() != want || all.Calls() != want {
		t.Errorf("%d and %d calls, want %d", none.Calls(), all.Calls(), want)
	}
}

// P6.4: the digest of a value depends on the value only.
func TestLeafOfKeepsTheKey(t *testing.T) {
	h := hasher(t, 256)
	value := LeafOf(h, api.Key{}, []byte("value")).Value
	for _, k := range parts() {
		if got, want := LeafOf(h, k, []byte("value")), (api.Leaf{Key: k, Value: value}); got != want {
			t.Errorf("LeafOf(%x) = %x, want %x", k, got, want)
		}
	}
}

// P6.4: a value of no bytes is a value like others, and its digest is not that of an empty subtree.
func TestLeafOfNoBytes(t *testing.T) {
	h := hasher(t, 256)
	for _, v := range [][]byte{nil, {}} {
		got := LeafOf(h, counting(1), v)
		if want := (api.Leaf{Key: counting(1), Value: sha256.Sum256([]byte{2})}); got != want {
			t.Errorf("LeafOf(%#v) = %x, want %x", v, got, want)
		}
		if got.Value == h.Sum(Empty()) || got.Value == h.Sum(nil) {
			t.Errorf("LeafOf(%#v) has the digest of something else", v)
		}
	}
}

// P6.4: a nil Hasher has a zero Digest for all bytes (chapter 5).
func TestLeafOfWithANilHasher(t *testing.T) {
	for _, v := range values() {
		for _, k := range [][32]byte{{}, filled(255), counting(1)} {
			if got, want := LeafOf(nil, k, v), (api.Leaf{Key: k}); got != want {
				t.Errorf("LeafOf of %d bytes = %x, want %x", len(v), got, want)
			}
		}
	}
}

// P6.4 and rule 4 of the document: value and leaf may be changed after the call.
func TestLeafOfKeepsNothingOfTheArguments(t *testing.T) {
	h, v := hasher(t, 256), []byte("0123456789")
	first := LeafOf(h, counting(1), v[:5])
	copy(v, "xxxxxxxxxx")
	if want := (api.Leaf{Key: counting(1), Value: sha256.Sum256([]byte("\x0201234"))}); first != want {
		t.Errorf("LeafOf = %x, want %x", first, want)
	}
	first.Key[0], first.Value[0] = 77, 77
	if got, want := LeafOf(h, counting(1), v[:5]), (api.Leaf{Key: counting(1), Value: sha256.Sum256([]byte("\x02xxxxx"))}); got != want {
		t.Errorf("LeafOf = %x, want %x", got, want)
	}
	if got := h.Calls(); got != 2 {
		t.Errorf("%d calls after 2 leaves", got)
	}
}

// P6.4: only LeafOf computes a digest, and only with its own hasher.
func TestOnlyLeafOfComputes(t *testing.T) {
	h := hasher(t, 20)
	f := h.Fork()
	LeafOf(f, counting(1), []byte("value"))
	leaf, inner := Leaf(api.Leaf{Key: counting(1)}), Node(counting(1), counting(2))
	SplitLeaf(leaf)
	SplitNode(inner)
	Kind(leaf)
	if h.Calls() != 0 || f.Calls() != 1 {
		t.Errorf("%d and %d calls, want 0 and 1", h.Calls(), f.Calls())
	}
	if got, want := LeafOf(h, counting(1), []byte("value")), LeafOf(f, counting(1), []byte("value")); got != want {
		t.Errorf("two hashers for 20 bits: %x and %x", got, want)
	}
}

// P6.5
func TestDifferentThingsHaveDifferentPreimages(t *testing.T) {
	seen := map[string]string{}
	add := func(thing string, b []byte) {
		if other, ok := seen[string(b)]; ok && other != thing {
			t.Errorf("%.80s and %.80s have the preimage %.80x", thing, other, b)
		}
		seen[string(b)] = thing
	}
	count := 0
	for i, a := range parts() {
		for j, b := range parts() {
			pair := strconv.Itoa(i) + " and " + strconv.Itoa(j)
			add("leaf of "+pair, Leaf(api.Leaf{Key: a, Value: b}))
			add("node of "+pair, Node(a, b))
			count += 2
		}
	}
	different := map[string]bool{}
	for _, v := range values() {
		add("value "+strconv.Quote(string(v)), Value(v))
		different[string(v)] = true
	}
	add("nothing", Empty())
	if want := count + len(different) + 1; len(seen) != want {
		t.Errorf("%d preimages of %d things", len(seen), want)
	}
}

// P6.5: things can be told from their preimages, and only they have them.
func TestPreimagesAreInverted(t *testing.T) {
	for _, b := range candidates() {
		var again []byte
		switch Kind(b) {
		case OfLeaf:
			l, _ := SplitLeaf(b)
			again = Leaf(l)
		case OfNode:
			left, right, _ := SplitNode(b)
			again = Node(left, right)
		case OfValue:
			again = Value(b[1:])
		case OfEmpty:
			again = Empty()
		default:
			continue
		}
		checkBytes(t, "the preimage of what has this preimage", again, b)
	}
}

// The examples of chapter 6, and the first one of the document.
func TestExamples(t *testing.T) {
	checkBytes(t, "Value", Value([]byte{7}), []byte{2, 7})
	checkBytes(t, "Empty", Empty(), []byte{3})
	if got := Kind([]byte{3}); got != OfEmpty {
		t.Errorf("Kind of 3 = %d", got)
	}
	if got := Kind([]byte{3, 3}); got != -1 {
		t.Errorf("Kind of 3, 3 = %d", got)
	}
	if got := hasher(t, 256).Sum(Empty()); got != sha256.Sum256([]byte{3}) {
		t.Errorf("the digest of an empty subtree = %x", got)
	}
}
