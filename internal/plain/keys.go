package plain

import (
	"bytes"
	"math"
	"slices"

	"sparsetree/api"
)

// Text returns a key as its 256 bits, each one written as a digit.
func Text(k api.Key) string {
	digits := make([]byte, 0, api.Depth)
	for _, x := range k {
		for shift := 7; shift >= 0; shift-- {
			digits = append(digits, '0'+x>>shift&1)
		}
	}
	return string(digits)
}

// KeyOf returns the key that begins with some digits, with zeros behind them.
func KeyOf(digits string) api.Key {
	var k api.Key
	for i, c := range digits[:min(len(digits), api.Depth)] {
		if c == '1' {
			k[i/8] |= 128 >> (i % 8)
		}
	}
	return k
}

// Flipped returns a key with some bits inverted.
func Flipped(k api.Key, numbers ...int) api.Key {
	for _, i := range numbers {
		k[i/8] ^= 128 >> (i % 8)
	}
	return k
}

// Filled returns the key whose bytes are all x.
func Filled(x byte) api.Key { return api.Key(bytes.Repeat([]byte{x}, api.Size)) }

// Scattered returns keys that look like random ones, and are the same ones for the same seed.
func Scattered(seed uint64, n int) []api.Key {
	l := make([]api.Key, n)
	for i := range l {
		for j := range l[i] {
			seed += 0x9e3779b97f4a7c15
			l[i][j] = mixed(seed)
		}
	}
	return l
}

// mixed returns a byte that depends on all bits of x (as splitmix64 mixes them).
func mixed(x uint64) byte {
	x = (x ^ x>>30) * 0xbf58476d1ce4e5b9
	x = (x ^ x>>27) * 0x94d049bb133111eb
	return byte(x >> 56)
}

// Neighbours returns a key and all that differ from it in one bit.
func Neighbours(k api.Key) []api.Key {
	l := []api.Key{k}
	for i := range api.Depth {
		l = append(l, Flipped(k, i))
	}
	return l
}

// Keys returns the least and the greatest key, and mixed ones.
func Keys() []api.Key {
	l := []api.Key{{}, Filled(255), Filled(0xaa), Filled(0x55), {128}, {31: 1}}
	return append(l, Scattered(8, 2)...)
}

// Numbers returns numbers of bits: all that a key may have, and others around and far from them.
func Numbers() []int {
	l := []int{math.MinInt, math.MinInt + 1, math.MinInt32, -257, -256, -255, -128, -2, -1,
		257, 258, 264, 512, 513, math.MaxInt32, 1 << 32, 1<<32 + 1, math.MaxInt - 1, math.MaxInt}
	for i := range api.Depth + 1 {
		l = append(l, i)
	}
	return l
}

// Orders calls a function with each order of a list.
func Orders[T any](l []T, call func(l []T)) {
	if len(l) == 0 {
		call(nil)
	}
	for i := range l {
		Orders(slices.Delete(slices.Clone(l), i, i+1), func(rest []T) { call(append(rest, l[i])) })
	}
}

// From returns the numbers from first to last.
func From(first, last int) []int {
	var l []int
	for i := first; i <= last; i++ {
		l = append(l, i)
	}
	return l
}
