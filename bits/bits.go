// Package bits is layer 1; see shared/doc/01-bits.md.
package bits

import "sparsetree/api"

// perByte is the number of bits of a byte.
const perByte = 8

// Bit returns a bit of a key, or -1 if the key has no bit of this number.
func Bit(k api.Key, i int) int {
	if !isNumber(i) {
		return -1
	}
	if k[i/perByte]&mask(i) == 0 {
		return 0
	}
	return 1
}

// Common returns the number of leading bits that two keys have in common.
func Common(a, b api.Key) int {
	for i := range api.Size {
		if d := a[i] ^ b[i]; d != 0 {
			return perByte*i + leadingZeros(d)
		}
	}
	return api.Depth
}

// Flip returns the key with a bit inverted, or the key itself if it has no bit of this number.
func Flip(k api.Key, i int) api.Key {
	if isNumber(i) {
		k[i/perByte] ^= mask(i)
	}
	return k
}

// Prefix returns the key whose first n bits are those of a key, and whose other bits are 0.
func Prefix(k api.Key, n int) api.Key {
	n = limit(n)
	var p api.Key
	whole := n / perByte
	copy(p[:whole], k[:whole])
	if rest := n % perByte; rest > 0 {
		p[whole] = k[whole] &^ (0xff >> rest)
	}
	return p
}

// Compare compares two keys in the lexicographic order of their bytes.
func Compare(a, b api.Key) int {
	if a == b {
		return 0
	}
	// The order of the bytes is that of the first bits that differ, because bit 0 of a byte is its most significant one.
	if Bit(a, Common(a, b)) == 0 {
		return -1
	}
	return 1
}

// Directions returns the first n bits of a key.
func Directions(k api.Key, n int) []int {
	l := make([]int, limit(n))
	for i := range len(l) {
		l[i] = Bit(k, i)
	}
	return l
}

// isNumber reports whether a key has a bit of this number.
func isNumber(i int) bool { return i >= 0 && i < api.Depth }

// limit returns the number of bits of a key that is closest to n.
func limit(n int) int { return max(0, min(n, api.Depth)) }

// mask returns the byte in which only the bit is 1 that bit i of a key is in its own byte.
func mask(i int) byte { return 0x80 >> (i % perByte) }

// leadingZeros returns the number of zeros before the first bit of b that is 1.
func leadingZeros(b byte) int {
	for i := range perByte {
		if b&mask(i) != 0 {
			return i
		}
	}
	return perByte
}
