// Package plain is for tests only: it keeps maps as lists of their keys with their bits as digits, from which it tells what trees look like without the packages that change and read them, makes proofs and lists of items that are well-formed, and others, and encodes and folds them as the chapters say it.
package plain

import (
	"bytes"
	"slices"
	"strconv"
	"strings"

	"sparsetree/api"
	"sparsetree/digest"
	"sparsetree/node"
)

// Member is a key of a map as its bits, with its value.
type Member struct {
	Text  string
	Entry api.Entry
}

// Map is a map that is kept as the list of its keys in ascending order. It is not changed after it was made.
type Map struct {
	Name    string
	Members []Member
}

// OfKeys returns the map of different keys, whose values tell them apart.
func OfKeys(name string, keys ...api.Key) Map {
	m := Map{Name: name}
	for i, k := range keys {
		m.Members = append(m.Members, Member{Text(k), api.Entry{Key: k, Value: value(i)}})
	}
	slices.SortFunc(m.Members, func(a, b Member) int { return strings.Compare(a.Text, b.Text) })
	return m
}

// value returns the value of a key with a number; some values have no bytes.
func value(i int) []byte {
	if i%3 == 2 {
		return nil
	}
	return []byte("value " + strconv.Itoa(i))
}

// Put returns the map in which a key has a value.
func (m Map) Put(e api.Entry) Map {
	x := Member{Text(e.Key), e}
	i, found := m.search(x.Text)
	if found {
		return Map{m.Name, slices.Concat(m.Members[:i], []Member{x}, m.Members[i+1:])}
	}
	return Map{m.Name, slices.Concat(m.Members[:i], []Member{x}, m.Members[i:])}
}

// Remove returns the map without a key, and whether the map had it.
func (m Map) Remove(k api.Key) (Map, bool) {
	i, found := m.search(Text(k))
	if !found {
		return m, false
	}
	return Map{m.Name, slices.Concat(m.Members[:i], m.Members[i+1:])}, true
}

// Keys returns the keys of the map in ascending order.
func (m Map) Keys() []api.Key {
	l := make([]api.Key, len(m.Members))
	for i, x := range m.Members {
		l[i] = x.Entry.Key
	}
	return l
}

// Entries returns the entries of the map in ascending order of their keys.
func (m Map) Entries() []api.Entry { return Entries(m.Members) }

// Mixed returns the entries of the map in another order than that of the keys.
func (m Map) Mixed() []api.Entry {
	var l []api.Entry
	for first := range 3 {
		for i := first; i < len(m.Members); i += 3 {
			l = append(l, m.Members[i].Entry)
		}
	}
	return l
}

// search returns the place of a key, and whether the map has it.
func (m Map) search(digits string) (int, bool) {
	return slices.BinarySearchFunc(m.Members, digits, func(x Member, s string) int { return strings.Compare(x.Text, s) })
}

// Entries returns the entries of members.
func Entries(l []Member) []api.Entry {
	var entries []api.Entry
	for _, x := range l {
		entries = append(entries, x.Entry)
	}
	return entries
}

// Same reports whether two entries have the same key and value.
func Same(a, b api.Entry) bool { return a.Key == b.Key && bytes.Equal(a.Value, b.Value) }

// With returns the members whose keys begin with some digits.
func (m Map) With(digits string) []Member { return Begin(m.Members, digits) }

// Begin returns the members of a sorted list whose keys begin with some digits: they follow one another.
func Begin(l []Member, digits string) []Member {
	for len(l) > 0 && !strings.HasPrefix(l[0].Text, digits) {
		l = l[1:]
	}
	for len(l) > 0 && !strings.HasPrefix(l[len(l)-1].Text, digits) {
		l = l[:len(l)-1]
	}
	return l
}

// Prefixes returns the members with the first bits of a key, for each number of bits from 0 to 256.
func (m Map) Prefixes(k api.Key) [api.Depth + 1][]Member {
	digits, l := Text(k), [api.Depth + 1][]Member{m.Members}
	for d := 1; d < len(l); d++ {
		l[d] = Begin(l[d-1], digits[:d])
	}
	return l
}

// Depth returns the depth at which the way of a key ends: the first one at which there are no two keys with its first bits.
func (m Map) Depth(k api.Key) int {
	l := m.Prefixes(k)
	return slices.IndexFunc(l[:], func(x []Member) bool { return len(x) < 2 })
}

// Tree makes the tree of the map as chapter 8 describes it.
func (m Map) Tree(h *digest.Hasher) *node.Node { return Subtree(h, m.Members, 0) }

// Subtree makes the subtree of members at a depth.
func Subtree(h *digest.Hasher, l []Member, depth int) *node.Node {
	switch len(l) {
	case 0:
		return nil
	case 1:
		return node.NewLeaf(h, l[0].Entry)
	}
	zeros := 0
	for zeros < len(l) && l[zeros].Text[depth] == '0' {
		zeros++
	}
	return node.Join(h, Subtree(h, l[:zeros], depth+1), Subtree(h, l[zeros:], depth+1))
}

// Bits returns numbers of bits with all digests alike, with many alike, and with none.
func Bits() []int { return []int{0, 1, 12, 255, 256} }

// Hasher returns a hasher for a number of bits from 0 to 256.
func Hasher(bits int) *digest.Hasher {
	h, errno := digest.New(bits)
	if errno != api.OK {
		panic("digest.New: " + errno.Error())
	}
	return h
}
