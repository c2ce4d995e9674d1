package plain

import (
	"strconv"

	"sparsetree/api"
)

// Maps returns maps of no key, of one key, of two that differ in one bit, and of many.
func Maps() []Map {
	l := []Map{OfKeys("no keys")}
	for i, k := range Keys() {
		name := "key " + strconv.Itoa(i)
		l = append(l, OfKeys(name, k),
			OfKeys(name+", first bit", k, Flipped(k, 0)),
			OfKeys(name+", last bit", k, Flipped(k, 255)),
			OfKeys(name+", first and last bit", k, Flipped(k, 0), Flipped(k, 255), Flipped(k, 0, 255)),
			OfKeys(name+", 16", k, api.Key{16}))
	}
	for i := 0; i < api.Depth; i += 5 {
		l = append(l, OfKeys("bit "+strconv.Itoa(i), Filled(0x33), Flipped(Filled(0x33), i)))
	}
	l = append(l, OfKeys("0, 128", api.Key{}, api.Key{128}), OfKeys("0, 255", api.Key{}, api.Key{255}),
		OfKeys("0, 64, 255", api.Key{}, api.Key{64}, api.Key{255}), OfKeys("three at the end", api.Key{}, api.Key{31: 1}, api.Key{31: 2}))
	return append(l, Large()...)
}

// Large returns maps of more keys: scattered ones, each first and each last byte, and a leaf beside each depth of a way.
func Large() []Map {
	var l []Map
	for _, n := range []int{3, 5, 17, 100, 1000} {
		l = append(l, OfKeys(strconv.Itoa(n)+" scattered", Scattered(uint64(n), n)...))
	}
	var first, last []api.Key
	for i := range 256 {
		first, last = append(first, api.Key{byte(i)}), append(last, api.Key{31: byte(i)})
	}
	l = append(l, OfKeys("each first byte", first...), OfKeys("each last byte", last...))
	for _, x := range []byte{0, 255, 0x5a} {
		l = append(l, OfKeys("beside "+strconv.Itoa(int(x)), Neighbours(Filled(x))...))
	}
	return l
}

// Around returns maps of a key and of keys beside it: so that each subtree on the way of the key is empty, a leaf with this key or another one, or an inner node.
func Around(k api.Key) []Map {
	return []Map{
		OfKeys("no keys"), OfKeys("this key", k), OfKeys("last bit", Flipped(k, 255)),
		OfKeys("both", k, Flipped(k, 255)), OfKeys("another one", Flipped(k, 100), Flipped(k, 100, 101)),
		OfKeys("all beside", Neighbours(k)...), OfKeys("all beside without", Neighbours(k)[1:]...),
	}
}

// Fives returns maps of five keys, which lie beside and above each other.
func Fives() []Map {
	return []Map{
		OfKeys("beside", api.Key{}, api.Key{64}, api.Key{128}, api.Key{129}, api.Key{255}),
		OfKeys("at the end", api.Key{}, api.Key{31: 1}, api.Key{31: 2}, api.Key{31: 3}, api.Key{128}),
		OfKeys("scattered", Scattered(99, 5)...),
	}
}

// Queries returns keys to look for: some that are in the map, such that differ from them in few bits, and others.
func (m Map) Queries() []api.Key {
	l := Keys()
	step := max(1, len(m.Members)/6)
	for i := 0; i < len(m.Members); i += step {
		k := m.Members[i].Entry.Key
		end := m.Depth(k)
		l = append(l, k, Flipped(k, 0), Flipped(k, 255), Flipped(k, 100), Flipped(k, 0, 255))
		for d := max(0, end-2); d < min(api.Depth, end+2); d++ {
			l = append(l, Flipped(k, d))
		}
	}
	return l
}
