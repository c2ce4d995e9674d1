package plain

import (
	"math"
	"slices"
	"strings"

	"sparsetree/api"
)

// FullItem returns a Full item whose key and digest are not zero.
func FullItem() api.Item {
	return api.Item{Kind: 1, Leaf: api.Leaf{Key: Filled(0x5a), Value: api.Digest(Filled(0xc3))}}
}

// SiblingItem returns a Sibling item whose digest is not zero.
func SiblingItem() api.Item { return api.Item{Kind: 3, Digest: api.Digest(Filled(0x77))} }

// EndItems returns items that are no Inner ones.
func EndItems() []api.Item {
	return []api.Item{{Kind: 0}, FullItem(), {Kind: 1}, SiblingItem(), {Kind: 3}}
}

// BadItemKinds returns kinds that an item must not have: next to those that it may have, and ones whose low bits are those of 0 to 3.
func BadItemKinds() []int {
	return []int{-1, 4, 5, -2, -3, 255, 256, 257, 258, 259, -256, -255, 1 << 31, 1<<31 + 1, 1 << 32, 1<<32 + 1, 1<<32 + 2, 1<<32 + 3, math.MinInt, math.MinInt + 1, math.MaxInt - 1, math.MaxInt}
}

// ImpureItems returns the items with a kind whose Digest or Leaf is not zero though the kind does not use it.
func ImpureItems() []api.Item {
	var l []api.Item
	for _, bit := range []int{0, 7, 100, 255} {
		x := Flipped(api.Key{}, bit)
		for kind := range 4 {
			if kind != api.Sibling {
				l = append(l, api.Item{Kind: kind, Digest: api.Digest(x)})
			}
			if kind != api.Full {
				l = append(l, api.Item{Kind: kind, Leaf: api.Leaf{Key: x}}, api.Item{Kind: kind, Leaf: api.Leaf{Value: api.Digest(x)}})
			}
		}
		l = append(l, api.Item{Kind: api.Full, Digest: api.Digest(x), Leaf: FullItem().Leaf}, api.Item{Kind: api.Sibling, Digest: SiblingItem().Digest, Leaf: FullItem().Leaf})
	}
	return l
}

// Shapes returns all well-formed lists with a number of ends, each of which is one of some items.
func Shapes(ends int, items []api.Item) [][]api.Item {
	var l [][]api.Item
	if ends == 1 {
		for _, x := range items {
			l = append(l, []api.Item{x})
		}
	}
	for left := 1; left < ends; left++ {
		for _, a := range Shapes(left, items) {
			for _, b := range Shapes(ends-left, items) {
				l = append(l, slices.Concat([]api.Item{{Kind: 2}}, a, b))
			}
		}
	}
	return l
}

// Chain returns the list with Inner items at the first depths on the way of a key, as many as n, an end, and other items beside the way.
func Chain(k api.Key, n int, end api.Item, beside func(depth int) api.Item) []api.Item {
	digits := strings.Repeat(Text(k), 1+n/256)
	var front, back []api.Item
	for d := range n {
		front = append(front, api.Item{Kind: 2})
		if digits[d] == '1' {
			front = append(front, beside(d))
		} else {
			back = append(back, beside(d))
		}
	}
	slices.Reverse(back)
	return slices.Concat(front, []api.Item{end}, back)
}

// Complete returns the items below a way that all end at a depth, at different leaves.
func Complete(way string, depth int) []api.Item {
	if len(way) == depth {
		return []api.Item{{Kind: 1, Leaf: api.Leaf{Key: KeyOf(way), Value: api.Digest(KeyOf("1" + way))}}}
	}
	return slices.Concat([]api.Item{{Kind: 2}}, Complete(way+"0", depth), Complete(way+"1", depth))
}

// GoodItems returns well-formed lists of few items and of many, flat ones and deep ones.
func GoodItems() [][]api.Item {
	var l [][]api.Item
	for n := range 3 {
		l = append(l, Shapes(n+1, EndItems())...)
	}
	l = append(l, Complete("", 5), Complete("", 10))
	for _, k := range []api.Key{{}, Filled(255), Filled(0x5a)} {
		for _, n := range []int{1, 2, 7, 8, 9, 100, 255, 256} {
			for _, x := range EndItems() {
				l = append(l, Chain(k, n, x, func(depth int) api.Item { return EndItems()[depth%5] }))
			}
		}
	}
	return l
}

// Place is an item of a list, with the digits of the bits that lead to it.
type Place struct {
	Way  string
	Item api.Item
}

// Places returns the items of a list with their ways, and whether the list is well-formed, as chapter 19 says it.
func Places(l []api.Item) ([]Place, bool) {
	var found []Place
	open := []string{""}
	for _, x := range l {
		if len(open) == 0 {
			return nil, false
		}
		way := open[len(open)-1]
		open = open[:len(open)-1]
		if x.Kind != 3 && x.Digest != [32]byte{} || x.Kind != 1 && (x.Leaf.Key != [32]byte{} || x.Leaf.Value != [32]byte{}) {
			return nil, false
		}
		if x.Kind == 2 {
			if len(way) > 255 {
				return nil, false
			}
			open = append(open, way+"1", way+"0")
		}
		found = append(found, Place{way, x})
	}
	if len(open) > 0 {
		return nil, false
	}
	return found, true
}

// FormOf tells what multi.Check of a list returns, as chapter 19 says it.
func FormOf(l []api.Item) api.Errno {
	for _, x := range l {
		if x.Kind < 0 || x.Kind > 3 {
			return 7
		}
	}
	if _, ok := Places(l); !ok {
		return 5
	}
	return 0
}
