package plain

import (
	"slices"
	"strings"

	"sparsetree/api"
)

// Encoding returns the encoding of a well-formed proof, as chapter 17 says it.
func Encoding(p api.Proof) []byte {
	parts := [][]byte{{1, byte(p.Kind), byte(p.Depth / 256), byte(p.Depth % 256)}, p.Bitmap[:]}
	if p.Kind == 1 {
		parts = append(parts, p.Leaf.Key[:], p.Leaf.Value[:])
	}
	for _, d := range p.Siblings {
		parts = append(parts, d[:])
	}
	return slices.Concat(parts...)
}

// DecodeError tells what codec.Decode of bytes returns, as chapter 17 says it.
func DecodeError(b []byte) api.Errno {
	switch {
	case len(b) < 36:
		return 5
	case b[0] != 1:
		return 6
	case b[1] > 1:
		return 7
	}
	digits := Text(api.Key(b[4:36]))
	size := 36 + 64*int(b[1]) + 32*strings.Count(digits, "1")
	if int(b[2])*256+int(b[3]) != strings.LastIndex(digits, "1")+1 || len(b) != size {
		return 5
	}
	return 0
}

// Decoded returns the proof with an encoding, without codec.Decode.
func Decoded(b []byte) api.Proof {
	p := api.Proof{Kind: int(b[1]), Depth: int(b[2])*256 + int(b[3]), Bitmap: [32]byte(b[4:36])}
	b = b[36:]
	if p.Kind == 1 {
		p.Leaf = api.Leaf{Key: api.Key(b[:32]), Value: api.Digest(b[32:64])}
		b = b[64:]
	}
	for i := 0; i < len(b); i += 32 {
		p.Siblings = append(p.Siblings, api.Digest(b[i:i+32]))
	}
	return p
}

// ItemsEncoding returns the encoding of a well-formed multiproof, as chapter 20 says it.
func ItemsEncoding(l []api.Item) []byte {
	n := len(l)
	parts := [][]byte{{1, 2, byte(n / 16777216), byte(n / 65536 % 256), byte(n / 256 % 256), byte(n % 256)}}
	for _, x := range l {
		parts = append(parts, []byte{byte(x.Kind)})
		if x.Kind == 3 {
			parts = append(parts, x.Digest[:])
		}
		if x.Kind == 1 {
			parts = append(parts, x.Leaf.Key[:], x.Leaf.Value[:])
		}
	}
	return slices.Concat(parts...)
}

// DecodedItems tells what mcodec.Decode of bytes returns, as chapter 20 says it.
func DecodedItems(b []byte) ([]api.Item, api.Errno) {
	switch {
	case len(b) < 6:
		return nil, 5
	case b[0] != 1:
		return nil, 6
	case b[1] != 2:
		return nil, 7
	}
	l, rest, ok := subtreeItems(nil, b[6:], 0)
	if !ok || len(rest) > 0 || len(l) > 16777216 || !slices.Equal(b[2:6], ItemsEncoding(l)[2:6]) {
		return nil, 5
	}
	return l, 0
}

// subtreeItems appends the items of the subtree at a depth with whose encoding bytes begin, and returns the bytes behind it.
func subtreeItems(l []api.Item, b []byte, depth int) (items []api.Item, rest []byte, ok bool) {
	if len(b) == 0 {
		return nil, nil, false
	}
	kind, b := b[0], b[1:]
	switch {
	case kind == 0:
		return append(l, api.Item{}), b, true
	case kind == 1 && len(b) >= 64:
		return append(l, api.Item{Kind: 1, Leaf: api.Leaf{Key: api.Key(b[:32]), Value: api.Digest(b[32:64])}}), b[64:], true
	case kind == 3 && len(b) >= 32:
		return append(l, api.Item{Kind: 3, Digest: api.Digest(b[:32])}), b[32:], true
	case kind == 2 && depth < 256:
		if l, b, ok = subtreeItems(append(l, api.Item{Kind: 2}), b, depth+1); ok {
			return subtreeItems(l, b, depth+1)
		}
	}
	return nil, nil, false
}

// Images returns the preimages of a well-formed proof for a key, from the root to the end, as chapter 16 says it, with a function that computes digests.
func Images(sum func(b []byte) api.Digest, p api.Proof, k api.Key) [][]byte {
	l := make([][]byte, p.Depth+1)
	l[p.Depth] = []byte{3}
	if p.Kind == 1 {
		l[p.Depth] = slices.Concat([]byte{0}, p.Leaf.Key[:], p.Leaf.Value[:])
	}
	depths, digits, rest := Text(api.Key(p.Bitmap)), Text(k), len(p.Siblings)
	for d := p.Depth - 1; d >= 0; d-- {
		below, beside := sum(l[d+1]), sum([]byte{3})
		if depths[d] == '1' {
			rest--
			beside = p.Siblings[rest]
		}
		if digits[d] == '1' {
			below, beside = beside, below
		}
		l[d] = slices.Concat([]byte{1}, below[:], beside[:])
	}
	return l
}
