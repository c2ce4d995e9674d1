package plain

import (
	"slices"
	"strings"

	"sparsetree/api"
)

// Encoding returns the encoding of a well-formed proof, as chapter 17 says it.
func Encoding(p api.Proof) []byte {
	parts := [][]byte{{1, byte(p.Kind), byte(p.Depth / 256), byte(p.Depth % 256)}, p.Bitmap[:]}
	if p.Kind == 1 {
		parts = append(parts, p.Leaf.Key[:], p.Leaf.Value[:])
	}
	for _, d := range p.Siblings {
		parts = append(parts, d[:])
	}
	return slices.Concat(parts...)
}

// DecodeError tells what codec.Decode of bytes returns, as chapter 17 says it.
func DecodeError(b []byte) api.Errno {
	switch {
	case len(b) < 36:
		return 5
	case b[0] != 1:
		return 6
	case b[1] > 1:
		return 7
	}
	digits := Text(api.Key(b[4:36]))
	size := 36 + 64*int(b[1]) + 32*strings.Count(digits, "1")
	if int(b[2])*256+int(b[3]) != strings.LastIndex(digits, "1")+1 || len(b) != size {
		return 5
	}
	return 0
}

// Decoded returns the proof with an encoding, without codec.Decode.
func Decoded(b []byte) api.Proof {
	p := api.Proof{Kind: int(b[1]), Depth: int(b[2])*256 + int(b[3]), Bitmap: [32]byte(b[4:36])}
	b = b[36:]
	if p.Kind == 1 {
		p.Leaf = api.Leaf{Key: api.Key(b[:32]), Value: api.Digest(b[32:64])}
		b = b[64:]
	}
	for i := 0; i < len(b); i += 32 {
		p.Siblings = append(p.Siblings, api.Digest(b[i:i+32]))
	}
	return p
}

// Images returns the preimages of a well-formed proof for a key, from the root to the end, as chapter 16 says it, with a function that computes digests.
func Images(sum func(b []byte) api.Digest, p api.Proof, k api.Key) [][]byte {
	l := make([][]byte, p.Depth+1)
	l[p.Depth] = []byte{3}
	if p.Kind == 1 {
		l[p.Depth] = slices.Concat([]byte{0}, p.Leaf.Key[:], p.Leaf.Value[:])
	}
	depths, digits, rest := Text(api.Key(p.Bitmap)), Text(k), len(p.Siblings)
	for d := p.Depth - 1; d >= 0; d-- {
		below, beside := sum(l[d+1]), sum([]byte{3})
		if depths[d] == '1' {
			rest--
			beside = p.Siblings[rest]
		}
		if digits[d] == '1' {
			below, beside = beside, below
		}
		l[d] = slices.Concat([]byte{1}, below[:], beside[:])
	}
	return l
}
