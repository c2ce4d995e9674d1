package walk

import (
	"bytes"
	"fmt"
	"iter"
	"math"
	"slices"
	"strings"
	"sync"
	"testing"

	"sparsetree/api"
	"sparsetree/find"
	"sparsetree/internal/plain"
	"sparsetree/node"
	"sparsetree/put"
	"sparsetree/remove"
)

// before is the number of members whose keys are before a key, as their digits tell it.
func before(l []plain.Member, k api.Key) int {
	count, digits := 0, plain.Text(k)
	for _, x := range l {
		if strings.Compare(x.Text, digits) < 0 {
			count++
		}
	}
	return count
}

// collect runs a loop over a sequence to its end.
func collect(seq iter.Seq2[api.Key, []byte]) []api.Entry {
	var l []api.Entry
	for k, v := range seq {
		l = append(l, api.Entry{Key: k, Value: v})
	}
	return l
}

// checkEntries checks a list of entries, in order.
func checkEntries(t *testing.T, name string, got, want []api.Entry) {
	t.Helper()
	if !slices.EqualFunc(got, want, plain.Same) {
		t.Fatalf("%s: %d entries %x, want %d: %x", name, len(got), got, len(want), want)
	}
}

// checkNone checks a result that is no entry.
func checkNone(t *testing.T, name string, e api.Entry, ok bool) {
	t.Helper()
	if ok || e.Key != (api.Key{}) || len(e.Value) != 0 {
		t.Fatalf("%s: %v, the entry %x", name, ok, e)
	}
}

// next returns the key right behind a key, and whether there is one.
func next(k api.Key) (api.Key, bool) {
	for i := range slices.Backward(k[:]) {
		k[i]++
		if k[i] != 0 {
			return k, true
		}
	}
	return k, false
}

// previous returns the key right before a key, and whether there is one.
func previous(k api.Key) (api.Key, bool) {
	for i := range slices.Backward(k[:]) {
		k[i]--
		if k[i] != 255 {
			return k, true
		}
	}
	return k, false
}

// places returns numbers of members of which there are n: the first ones, the one in the middle, and the last ones.
func places(n int) []int {
	var l []int
	for _, i := range []int{0, 1, n / 2, n - 2, n - 1} {
		if i >= 0 && i < n && !slices.Contains(l, i) {
			l = append(l, i)
		}
	}
	return l
}

// queries returns keys of a map, keys right before and behind them, such that differ in the first or the last bit, and others.
func queries(m plain.Map) []api.Key {
	l := append(m.Queries(), api.Key{}, plain.Filled(255))
	for _, i := range places(len(m.Members)) {
		k := m.Members[i].Entry.Key
		l = append(l, k, plain.Flipped(k, 0), plain.Flipped(k, 255))
		if x, ok := next(k); ok {
			l = append(l, x)
		}
		if x, ok := previous(k); ok {
			l = append(l, x)
		}
	}
	return l
}

// numbers returns numbers around those of n entries, and far from them.
func numbers(n int) []int {
	l := []int{math.MinInt, math.MinInt + 1, math.MinInt32, -n - 1, -n, -2, -1, 0, 1, 2, n / 2,
		n - 2, n - 1, n, n + 1, 2 * n, math.MaxInt32, 1 << 32, 1<<32 + 1, math.MaxInt - 1, math.MaxInt}
	slices.Sort(l)
	return slices.Compact(l)
}

// eachMap calls a function with maps and their trees: with all maps for 256 bits, and with the smaller ones for few bits.
func eachMap(call func(m plain.Map, n *node.Node)) {
	for _, bits := range plain.Bits() {
		h, l := plain.Hasher(bits), plain.Maps()
		if bits != 256 {
			l = l[:25]
		}
		for _, m := range l {
			call(m, m.Tree(h))
		}
	}
}

// P11.1: all keys with their values in order, by a loop and as a list.
func TestAllAndEntriesOfMaps(t *testing.T) {
	eachMap(func(m plain.Map, n *node.Node) {
		want := m.Entries()
		checkEntries(t, m.Name+", All", collect(All(n)), want)
		checkEntries(t, m.Name+", Entries", Entries(n), want)
	})
}

// P11.1 to P11.4: the tree without keys has nothing to list.
func TestTheTreeWithoutKeys(t *testing.T) {
	for range All(nil) {
		t.Error("All yields a key")
	}
	if l := Entries(nil); len(l) != 0 {
		t.Errorf("Entries: %x", l)
	}
	if l := Depths(nil); len(l) != 0 {
		t.Errorf("Depths: %v", l)
	}
	for _, k := range plain.Keys() {
		if i := Rank(nil, k); i != 0 {
			t.Errorf("Rank of %x = %d", k, i)
		}
		for _, i := range numbers(0) {
			if l := From(nil, k, i); len(l) != 0 {
				t.Errorf("From %x, %d: %x", k, i, l)
			}
			e, ok := Nth(nil, i)
			checkNone(t, fmt.Sprint("Nth of ", i), e, ok)
		}
	}
}

// P11.1 to P11.4: the tree of one key is its leaf, whatever the first bits of another key are.
func TestTheTreeOfOneKey(t *testing.T) {
	for _, k := range plain.Keys() {
		only := []api.Entry{{Key: k, Value: []byte("only")}}
		n := node.NewLeaf(plain.Hasher(256), only[0])
		checkEntries(t, "All", collect(All(n)), only)
		checkEntries(t, "Entries", Entries(n), only)
		if l := Depths(n); !slices.Equal(l, []int{0}) {
			t.Errorf("Depths = %v", l)
		}
		e, ok := Nth(n, 0)
		if !ok || !plain.Same(e, only[0]) || Rank(n, k) != 0 {
			t.Errorf("%x: Nth = %x, %v, and Rank = %d", k, e, ok, Rank(n, k))
		}
		checkEntries(t, "From", From(n, k, 1), only)
		for i := range api.Depth {
			// Without a bit that is 1 in k, the other key is before k.
			other, behind := plain.Flipped(k, i), 0
			if plain.Text(k)[i] == '0' {
				behind = 1
			}
			if got := Rank(n, other); got != behind {
				t.Errorf("%x: Rank of %x = %d", k, other, got)
			}
			checkEntries(t, "From another key", From(n, other, 1), only[behind:])
		}
	}
}

// P11.1: a loop that is left at the first entry, in the middle or at the last one yields nothing more, and the sequence can be used again.
func TestLeavingALoop(t *testing.T) {
	eachMap(func(m plain.Map, n *node.Node) {
		want, seq := m.Entries(), All(n)
		for _, last := range places(len(want)) {
			var got []api.Entry
			for k, v := range seq {
				got = append(got, api.Entry{Key: k, Value: v})
				if len(got) == last+1 {
					break
				}
			}
			checkEntries(t, fmt.Sprintf("%s, left at %d", m.Name, last), got, want[:last+1])
			calls := 0
			seq(func(api.Key, []byte) bool {
				calls++
				return calls != last+1
			})
			if calls != last+1 {
				t.Fatalf("%s: %d calls, but the answer at %d was false", m.Name, calls, last)
			}
		}
		checkEntries(t, m.Name+", once more", collect(seq), want)
		checkEntries(t, m.Name+", and again", collect(seq), want)
	})
}

// P11.1: in a map of few keys, a loop may be left at each entry, at 256 levels too.
func TestLeavingALoopAtEachEntry(t *testing.T) {
	h := plain.Hasher(256)
	for _, m := range append(plain.Fives(), plain.OfKeys("beside", plain.Neighbours(plain.Filled(0x5a))...)) {
		want, seq := m.Entries(), All(m.Tree(h))
		for last := range want {
			var got []api.Entry
			seq(func(k api.Key, v []byte) bool {
				got = append(got, api.Entry{Key: k, Value: v})
				return len(got) <= last
			})
			checkEntries(t, fmt.Sprintf("%s, left at %d", m.Name, last), got, want[:last+1])
		}
	}
}

// P11.1: loops over the same sequence, one inside another, each yield all keys.
func TestALoopInsideAnother(t *testing.T) {
	h := plain.Hasher(256)
	for _, m := range plain.Maps() {
		if len(m.Members) > 300 {
			continue
		}
		want, seq := m.Entries(), All(m.Tree(h))
		var outer []api.Entry
		for k, v := range seq {
			outer = append(outer, api.Entry{Key: k, Value: v})
			if len(want) <= 20 || len(outer)%50 == 1 {
				checkEntries(t, m.Name+", inside", collect(seq), want)
			}
			for range seq {
				break
			}
		}
		checkEntries(t, m.Name+", outside", outer, want)
	}
}

// P11.1: two loops over the same sequence may be at different entries by turns.
func TestLoopsByTurns(t *testing.T) {
	m := plain.Large()[2]
	want, seq := m.Entries(), All(m.Tree(plain.Hasher(256)))
	one, stopOne := iter.Pull2(seq)
	defer stopOne()
	two, stopTwo := iter.Pull2(seq)
	defer stopTwo()
	var ahead, behind []api.Entry
	for i := range want {
		k, v, _ := one()
		ahead = append(ahead, api.Entry{Key: k, Value: v})
		if i >= 5 {
			k, v, _ = two()
			behind = append(behind, api.Entry{Key: k, Value: v})
		}
	}
	if _, _, ok := one(); ok {
		t.Error("another key behind the last one")
	}
	checkEntries(t, "the first loop", ahead, want)
	checkEntries(t, "the second loop", behind, want[:len(want)-5])
}

// P11.1 and P2: a loop over a tree goes on as it began while other trees are made from it.
func TestALoopWhileOtherTreesAreMade(t *testing.T) {
	h := plain.Hasher(256)
	for _, m := range plain.Large()[:4] {
		n, other := m.Tree(h), m.Tree(h)
		var got []api.Entry
		for k, v := range All(n) {
			got = append(got, api.Entry{Key: k, Value: v})
			other, _ = remove.Remove(h, other, k)
			other = put.Put(h, other, api.Entry{Key: plain.Flipped(k, 3), Value: []byte("new")})
		}
		checkEntries(t, m.Name, got, m.Entries())
		checkEntries(t, m.Name+", afterwards", Entries(n), m.Entries())
	}
}

// P11.1: a panic in the body of a loop is the loop's own and reaches what is around it; the sequence can be used again.
func TestAPanicInALoop(t *testing.T) {
	m := plain.Large()[2]
	seq := All(m.Tree(plain.Hasher(256)))
	count := 0
	caught := func() (x any) {
		defer func() { x = recover() }()
		for range seq {
			count++
			if count == 3 {
				panic("third")
			}
		}
		return nil
	}()
	if caught != "third" || count != 3 {
		t.Errorf("caught %v after %d keys", caught, count)
	}
	checkEntries(t, "afterwards", collect(seq), m.Entries())
}

// P11.1 to P11.3: values without bytes, and long ones, are yielded and returned as they are.
func TestValues(t *testing.T) {
	h := plain.Hasher(256)
	want := []api.Entry{{Key: api.Key{1}}, {Key: api.Key{2}, Value: []byte{}}, {Key: api.Key{2, 1}, Value: []byte{0}},
		{Key: api.Key{3}, Value: bytes.Repeat([]byte{7}, api.MaxValue)}, {Key: api.Key{255}, Value: make([]byte, api.MaxValue+1)}}
	n := put.All(h, nil, want)
	checkEntries(t, "All", collect(All(n)), want)
	checkEntries(t, "Entries", Entries(n), want)
	checkEntries(t, "From", From(n, api.Key{}, 9), want)
	for i, x := range want {
		if e, ok := Nth(n, i); !ok || !plain.Same(e, x) {
			t.Errorf("Nth of %d: %v, %d bytes", i, ok, len(e.Value))
		}
	}
}

// spoil changes a value, and what is behind its length.
func spoil(v []byte) {
	v = v[:cap(v)]
	for i := range v {
		v[i] ^= 0xff
	}
}

// P11.1 to P11.3: values are copied, so that those that were yielded or returned may be changed.
func TestValuesAreCopied(t *testing.T) {
	h := plain.Hasher(256)
	for _, m := range plain.Maps() {
		n, want := m.Tree(h), m.Entries()
		seq, kept := All(n), Entries(n)
		first, _ := Nth(n, 0)
		for _, v := range seq {
			spoil(v)
		}
		for _, l := range [][]api.Entry{collect(seq), Entries(n), From(n, api.Key{}, len(want))} {
			checkEntries(t, m.Name, l, want)
			for _, e := range l {
				spoil(e.Value)
			}
		}
		e, _ := Nth(n, 0)
		spoil(e.Value)
		again, _ := Nth(n, 0)
		if !plain.Same(again, first) {
			t.Fatalf("%s: Nth = %x after a change, want %x", m.Name, again, first)
		}
		checkEntries(t, m.Name+", those of before", kept, want)
		checkEntries(t, m.Name+", the sequence", collect(seq), want)
		checkEntries(t, m.Name+", the tree", plain.Leaves(n), want)
	}
}

// P11.1 to P11.3: the values of one result share no memory with each other.
func TestValuesOfOneResult(t *testing.T) {
	m := plain.Large()[2]
	n, want := m.Tree(plain.Hasher(256)), m.Entries()
	for _, l := range [][]api.Entry{collect(All(n)), Entries(n), From(n, api.Key{}, math.MaxInt)} {
		for i := range l {
			spoil(l[i].Value)
			checkEntries(t, fmt.Sprint("behind number ", i), l[i+1:], want[i+1:])
		}
	}
}

// P11.2: from keys of all places on, with every number of entries.
func TestFromOfMaps(t *testing.T) {
	eachMap(func(m plain.Map, n *node.Node) {
		for _, k := range queries(m) {
			rest := plain.Entries(m.Members[before(m.Members, k):])
			for _, most := range append(numbers(len(m.Members)), len(rest)-1, len(rest), len(rest)+1) {
				if len(m.Members) > 300 && most > 5 && most < math.MaxInt {
					continue
				}
				name := fmt.Sprintf("%s, from %x, %d", m.Name, k, most)
				checkEntries(t, name, From(n, k, most), rest[:max(0, min(most, len(rest)))])
			}
		}
	})
}

// P11.2: of 0, 64 and 255, as the number of entries and the key on which they begin change.
func TestFromOfThreeKeys(t *testing.T) {
	a, b, c := api.Key{}, api.Key{64}, api.Key{255}
	n := plain.OfKeys("0, 64 and 255", a, b, c).Tree(plain.Hasher(256))
	for _, x := range []struct {
		from api.Key
		most int
		want []api.Key
	}{
		{a, 1, []api.Key{a}},
		{a, 2, []api.Key{a, b}},
		{a, 3, []api.Key{a, b, c}},
		{a, math.MaxInt, []api.Key{a, b, c}},
		{a, 0, nil},
		{a, -1, nil},
		{a, math.MinInt, nil},
		{api.Key{31: 1}, 3, []api.Key{b, c}},
		{api.Key{63}, 1, []api.Key{b}},
		{b, 3, []api.Key{b, c}},
		{api.Key{64, 31: 1}, 3, []api.Key{c}},
		{api.Key{128}, 3, []api.Key{c}},
		{c, 3, []api.Key{c}},
		{api.Key{255, 31: 1}, 3, nil},
		{plain.Filled(255), math.MaxInt, nil},
	} {
		var got []api.Key
		for _, e := range From(n, x.from, x.most) {
			got = append(got, e.Key)
		}
		if !slices.Equal(got, x.want) {
			t.Errorf("from %x, %d: %x, want %x", x.from, x.most, got, x.want)
		}
	}
}

// P11.3: Rank of keys that are in the map, right before and behind them, before the first one, and behind the last one.
func TestRankOfMaps(t *testing.T) {
	eachMap(func(m plain.Map, n *node.Node) {
		for _, k := range queries(m) {
			if got, want := Rank(n, k), before(m.Members, k); got != want {
				t.Fatalf("%s: Rank of %x = %d, want %d", m.Name, k, got, want)
			}
		}
	})
}

// P11.3: two keys that differ in one bit, from the first to the last, and all keys that differ from them in another one.
func TestRankOfTwoKeys(t *testing.T) {
	h := plain.Hasher(256)
	for _, k := range plain.Keys()[5:] {
		for i := 0; i < api.Depth; i += 17 {
			m := plain.OfKeys(fmt.Sprint("bit ", i), k, plain.Flipped(k, i))
			n := m.Tree(h)
			for _, x := range plain.Neighbours(k) {
				if got, want := Rank(n, x), before(m.Members, x); got != want {
					t.Fatalf("%s: Rank of %x = %d, want %d", m.Name, x, got, want)
				}
			}
		}
	}
}

// P11.3: each number of an entry, and such numbers that there is none.
func TestNthOfMaps(t *testing.T) {
	eachMap(func(m plain.Map, n *node.Node) {
		for i, x := range m.Members {
			if e, ok := Nth(n, i); !ok || !plain.Same(e, x.Entry) {
				t.Fatalf("%s: Nth of %d = %x, %v, want %x", m.Name, i, e, ok, x.Entry)
			}
		}
		for _, i := range numbers(len(m.Members)) {
			if i < 0 || i >= len(m.Members) {
				e, ok := Nth(n, i)
				checkNone(t, fmt.Sprintf("%s, Nth of %d", m.Name, i), e, ok)
			}
		}
	})
}

// P11.4: the depths at which the ways of the keys end.
func TestDepthsOfMaps(t *testing.T) {
	eachMap(func(m plain.Map, n *node.Node) {
		got, want := Depths(n), make([]int, len(m.Members))
		for i, x := range m.Members {
			want[i] = m.Depth(x.Entry.Key)
			if _, depth := find.Locate(n, x.Entry.Key); depth != want[i] {
				t.Fatalf("%s: the way of %x ends at depth %d", m.Name, x.Entry.Key, depth)
			}
		}
		if !slices.Equal(got, want) {
			t.Fatalf("%s: %v, want %v", m.Name, got, want)
		}
	})
}

// P11.4: the ways of two keys end behind the bit in which they differ, from the first to the last.
func TestDepthsOfTwoKeys(t *testing.T) {
	h := plain.Hasher(256)
	for i := range api.Depth {
		n := plain.OfKeys("", plain.Filled(0x33), plain.Flipped(plain.Filled(0x33), i)).Tree(h)
		if got := Depths(n); !slices.Equal(got, []int{i + 1, i + 1}) {
			t.Errorf("bit %d: %v", i, got)
		}
	}
}

// P11.4: a leaf beside each depth of a way, in the order of the keys.
func TestDepthsBesideAWay(t *testing.T) {
	h := plain.Hasher(256)
	var want []int
	for i := range api.Depth {
		want = append(want, i+1)
	}
	want = append(want, api.Depth)
	// All keys beside the way of the greatest one are before it, and those beside the way of the least one behind it.
	if got := Depths(plain.OfKeys("", plain.Neighbours(plain.Filled(255))...).Tree(h)); !slices.Equal(got, want) {
		t.Errorf("beside the greatest key: %v", got)
	}
	slices.Reverse(want)
	if got := Depths(plain.OfKeys("", plain.Neighbours(api.Key{})...).Tree(h)); !slices.Equal(got, want) {
		t.Errorf("beside the least key: %v", got)
	}
}

// P11.1 to P11.4: keys that differ in the last bit only, whose ways end at depth 256.
func TestKeysThatDifferInTheLastBit(t *testing.T) {
	h := plain.Hasher(256)
	for _, k := range plain.Keys() {
		m := plain.OfKeys(fmt.Sprintf("%x", k), k, plain.Flipped(k, 255))
		n, want := m.Tree(h), m.Entries()
		checkEntries(t, m.Name, collect(All(n)), want)
		checkEntries(t, m.Name, From(n, want[1].Key, 2), want[1:])
		if l := Depths(n); !slices.Equal(l, []int{256, 256}) {
			t.Errorf("%s: Depths = %v", m.Name, l)
		}
		for i, x := range want {
			if e, ok := Nth(n, i); !ok || !plain.Same(e, x) || Rank(n, x.Key) != i {
				t.Errorf("%s: Nth of %d = %x, %v, and Rank %d", m.Name, i, e, ok, Rank(n, x.Key))
			}
		}
		if after, ok := next(want[1].Key); ok && Rank(n, after) != 2 {
			t.Errorf("%s: Rank of the key behind both = %d", m.Name, Rank(n, after))
		}
	}
}

// P11.5: the number of an entry is the Rank of its key, and From begins with the entry of this number.
func TestRankNthAndFromAgree(t *testing.T) {
	eachMap(func(m plain.Map, n *node.Node) {
		for i, x := range Entries(n) {
			e, ok := Nth(n, Rank(n, x.Key))
			if Rank(n, x.Key) != i || !ok || !plain.Same(e, x) {
				t.Fatalf("%s: Rank of %x = %d, want %d", m.Name, x.Key, Rank(n, x.Key), i)
			}
		}
		for _, k := range queries(m) {
			e, ok := Nth(n, Rank(n, k))
			l := From(n, k, 1)
			if ok != (len(l) == 1) || ok && !plain.Same(e, l[0]) {
				t.Fatalf("%s: From %x begins with %x, want %x", m.Name, k, l, e)
			}
			if i := Rank(n, k); i > 0 {
				e, _ := Nth(n, i-1)
				checkNoneFrom(t, m, n, k, e)
			}
		}
	})
}

// checkNoneFrom checks that From a key on leaves out the entry before it.
func checkNoneFrom(t *testing.T, m plain.Map, n *node.Node, k api.Key, e api.Entry) {
	t.Helper()
	if plain.Text(e.Key) >= plain.Text(k) || slices.ContainsFunc(From(n, k, 3), func(x api.Entry) bool { return x.Key == e.Key }) {
		t.Fatalf("%s: %x is not before %x", m.Name, e.Key, k)
	}
}

// P11.1 to P11.3: what one goroutine does to its results does not change those of another one.
func TestConcurrentCalls(t *testing.T) {
	m := plain.Large()[3]
	n, want := m.Tree(plain.Hasher(256)), m.Entries()
	seq, depths := All(n), Depths(n)
	var wait sync.WaitGroup
	for i := range 8 {
		wait.Go(func() {
			k := want[10*i].Key
			ok := slices.EqualFunc(collect(seq), want, plain.Same) && slices.EqualFunc(Entries(n), want, plain.Same) &&
				slices.EqualFunc(From(n, k, 5), want[10*i:10*i+5], plain.Same) && slices.Equal(Depths(n), depths)
			e, found := Nth(n, 10*i)
			if !ok || !found || e.Key != k || Rank(n, k) != 10*i {
				t.Error("another result")
			}
			for _, v := range seq {
				spoil(v)
			}
		})
	}
	wait.Wait()
	checkEntries(t, "the tree", Entries(n), want)
}

// The example of chapter 11.
func TestExample(t *testing.T) {
	for _, bits := range plain.Bits() {
		n := plain.OfKeys("", api.Key{}, api.Key{64}, api.Key{255}).Tree(plain.Hasher(bits))
		if got := Rank(n, api.Key{65}); got != 2 {
			t.Errorf("%d bits: Rank of 65 = %d", bits, got)
		}
		if got := Depths(n); !slices.Equal(got, []int{2, 2, 1}) {
			t.Errorf("%d bits: Depths = %v", bits, got)
		}
	}
}
