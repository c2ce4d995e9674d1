package tree

import (
	"bytes"
	"errors"
	"fmt"
	"runtime"
	"slices"
	"sync"
	"testing"

	"sparsetree/api"
	"sparsetree/fault"
	"sparsetree/internal/plain"
	"sparsetree/node"
)

// empty returns a Tree with the empty map.
func empty(t *testing.T, bits int) *Tree {
	t.Helper()
	x, errno := New(bits)
	if x == nil || errno != api.OK {
		t.Fatalf("New(%d): %v, %v", bits, x, errno)
	}
	return x
}

// filled returns a Tree with a map, whose keys are put in mixed order.
func filled(t *testing.T, bits int, m plain.Map) *Tree {
	t.Helper()
	x := empty(t, bits)
	for _, e := range m.Mixed() {
		mustPut(t, x, e)
	}
	return x
}

// mustPut puts an entry without an error.
func mustPut(t *testing.T, x *Tree, e api.Entry) {
	t.Helper()
	if err := x.Put(e.Key[:], e.Value); err != nil {
		t.Fatalf("Put of %x: %v", e.Key, err)
	}
}

// mustDelete deletes a key without an error, and checks whether it was in the map.
func mustDelete(t *testing.T, x *Tree, k api.Key, had bool) {
	t.Helper()
	if found, err := x.Delete(k[:]); found != had || err != nil {
		t.Fatalf("Delete of %x: %v, %v, want %v", k, found, err, had)
	}
}

// checkGet checks the value of a key that is in a map.
func checkGet(t *testing.T, name string, x *Tree, e api.Entry) {
	t.Helper()
	if value, ok, err := x.Get(e.Key[:]); !ok || err != nil || !bytes.Equal(value, e.Value) {
		t.Fatalf("%s: Get of %x: %.20q, %v, %v, want %.20q", name, e.Key, value, ok, err, e.Value)
	}
}

// checkAbsent checks that a key is not in a map.
func checkAbsent(t *testing.T, name string, x *Tree, k api.Key) {
	t.Helper()
	if value, ok, err := x.Get(k[:]); ok || err != nil || len(value) != 0 {
		t.Fatalf("%s: Get of %x: %.20q, %v, %v, want none", name, k, value, ok, err)
	}
}

// checkMap checks that a Tree has a map, by its root, its entries and its tree.
func checkMap(t *testing.T, name string, x *Tree, m plain.Map) {
	t.Helper()
	h := plain.Hasher(x.Hasher().Bits())
	name = fmt.Sprintf("%d bits, %s, %s", h.Bits(), m.Name, name)
	want := m.Tree(h)
	if d := plain.Difference(h, x.Node(), want); d != "" {
		t.Fatalf("%s: Node: %s", name, d)
	}
	if x.Root() != node.Digest(h, want) {
		t.Fatalf("%s: Root = %x, want %x", name, x.Root(), node.Digest(h, want))
	}
	if x.Len() != len(m.Members) {
		t.Fatalf("%s: Len = %d, want %d", name, x.Len(), len(m.Members))
	}
	if l := x.Entries(); !slices.EqualFunc(l, m.Entries(), plain.Same) {
		t.Fatalf("%s: Entries = %x, want %x", name, l, m.Entries())
	}
}

// checkError checks that an error is a Fault with an operation, an index and a code, and nothing else.
func checkError(t *testing.T, name string, err error, op string, at int, code api.Errno) {
	t.Helper()
	f, ok := err.(*fault.Fault)
	if !ok || f == nil {
		t.Fatalf("%s: %v is no Fault, want %s %d: %v", name, err, op, at, code)
	}
	if f.Op != op || f.At != at || f.Err == nil || f.Err != error(code) {
		t.Fatalf("%s: %v, want %s %d: %v", name, err, op, at, code)
	}
	if want := fmt.Sprintf("%s %d: error %d", op, at, int(code)); err.Error() != want {
		t.Fatalf("%s: the text %q, want %q", name, err, want)
	}
	for e := api.OK; e <= api.ErrOther; e++ {
		if errors.Is(err, e) != (e == code) {
			t.Fatalf("%s: %v, and errors.Is finds %v", name, err, e)
		}
	}
	if fault.Code(err) != code || !slices.Equal(fault.Ops(err), []string{op}) {
		t.Fatalf("%s: the code %v and the operations %q", name, fault.Code(err), fault.Ops(err))
	}
}

// checkFailed checks that Put of a key and a value has the error put, that Get and Delete of the key have the error rest if it is not OK, and that they change nothing.
func checkFailed(t *testing.T, name string, x *Tree, m plain.Map, key, value []byte, put, rest api.Errno) {
	t.Helper()
	oldKey, oldValue, root, calls := slices.Clone(key), slices.Clone(value), x.Node(), x.Hasher().Calls()
	checkError(t, name+", Put", x.Put(key, value), "put", 0, put)
	if rest != api.OK {
		got, ok, err := x.Get(key)
		checkError(t, name+", Get", err, "get", 0, rest)
		found, other := x.Delete(key)
		checkError(t, name+", Delete", other, "delete", 0, rest)
		if ok || len(got) != 0 || found {
			t.Fatalf("%s: an error with the results %x, %v, %v", name, got, ok, found)
		}
	}
	if x.Node() != root || x.Hasher().Calls() != calls {
		t.Fatalf("%s: an error with an effect", name)
	}
	if !bytes.Equal(key, oldKey) || !bytes.Equal(value, oldValue) {
		t.Fatalf("%s: an argument was changed", name)
	}
	checkMap(t, name, x, m)
}

// few are maps of no key, of one and of some.
func few() []plain.Map {
	return []plain.Map{plain.OfKeys("no keys"), plain.OfKeys("one key", api.Key{64}), plain.OfKeys("zero key", api.Key{}),
		plain.OfKeys("0, 64, 255", api.Key{}, api.Key{64}, plain.Filled(255)), plain.Fives()[0], plain.Fives()[1]}
}

// eachMap calls a function with maps: with all maps for 256 bits, and with the smaller ones for few bits.
func eachMap(call func(bits int, m plain.Map)) {
	for _, bits := range plain.Bits() {
		l := plain.Maps()
		if bits != 256 {
			l = l[:15]
		}
		for _, m := range l {
			call(bits, m)
		}
	}
}

// P13.1: each number of bits that a hasher may have, and others around and far from them.
func TestNew(t *testing.T) {
	for _, bits := range plain.Numbers() {
		x, errno := New(bits)
		if bits < 0 || bits > 256 {
			if x != nil || errno != api.ErrRange {
				t.Errorf("New(%d): %v, %v", bits, x, errno)
			}
			continue
		}
		if x == nil || errno != api.OK {
			t.Fatalf("New(%d): %v, %v", bits, x, errno)
		}
		if h := x.Hasher(); h == nil || h.Bits() != bits || h.Calls() != 0 {
			t.Errorf("New(%d): a hasher for %d bits that has computed %d digests", bits, h.Bits(), h.Calls())
		}
		checkMap(t, "New", x, plain.Map{})
		if want := plain.Hasher(bits).Sum([]byte{3}); x.Root() != want || x.Node() != nil || x.Len() != 0 || len(x.Entries()) != 0 {
			t.Errorf("New(%d): %d keys and the root %x, want %x", bits, x.Len(), x.Root(), want)
		}
	}
}

// P13.2 and P13.6: the entries of maps, one by one in mixed order.
func TestPutOfMaps(t *testing.T) {
	eachMap(func(bits int, m plain.Map) {
		x, now := empty(t, bits), plain.Map{Name: m.Name}
		for i, e := range m.Mixed() {
			mustPut(t, x, e)
			now = now.Put(e)
			if i < 5 {
				checkMap(t, "on the way", x, now)
			}
		}
		checkMap(t, "all keys", x, m)
		for _, e := range m.Entries()[:min(20, len(m.Members))] {
			checkGet(t, m.Name, x, e)
		}
	})
}

// P13.2: another value replaces the one that a key has, and the same one changes nothing.
func TestPutOfAKeyInTheMap(t *testing.T) {
	for _, bits := range plain.Bits() {
		for _, m := range few()[1:] {
			x := filled(t, bits, m)
			for _, k := range m.Keys() {
				for _, value := range []string{"new", "", "\x00", "new"} {
					e := api.Entry{Key: k, Value: []byte(value)}
					m = m.Put(e)
					for range 2 {
						mustPut(t, x, e)
						checkMap(t, "another value", x, m)
						checkGet(t, m.Name, x, e)
					}
				}
			}
		}
	}
}

// P13.2: values of all lengths around the greatest one, for keys that are in the map and for others.
func TestLengthsOfValues(t *testing.T) {
	for _, bits := range []int{256, 0} {
		for _, m := range few() {
			for _, k := range []api.Key{{64}, {65}, {}} {
				x, now := filled(t, bits, m), m
				for _, n := range []int{0, 1, api.MaxValue - 1, api.MaxValue, 0} {
					e := api.Entry{Key: k, Value: bytes.Repeat([]byte{7}, n)}
					mustPut(t, x, e)
					now = now.Put(e)
					checkMap(t, fmt.Sprint(n, " bytes"), x, now)
					checkGet(t, m.Name, x, e)
				}
				mustPut(t, x, api.Entry{Key: k})
				checkGet(t, m.Name+", nil", x, api.Entry{Key: k})
				for _, n := range []int{api.MaxValue + 1, api.MaxValue + 2, 1 << 17} {
					checkFailed(t, fmt.Sprint(n, " bytes"), x, now, k[:], make([]byte, n), api.ErrValue, api.OK)
				}
			}
		}
	}
}

// wrongKeys are bytes that are no keys, some of which begin with a key, or are the beginning of one that is in a map.
func wrongKeys() [][]byte {
	k := plain.Filled(255)
	long := bytes.Repeat([]byte{255}, 64)
	return [][]byte{nil, {}, {0}, {64}, k[:31], k[1:], k[:0], k[:16], long[:33], long, make([]byte, 31), make([]byte, 33), make([]byte, 256)}
}

// P13.2, P13.3 and P13.5: keys of wrong lengths, whatever the value is.
func TestLengthsOfKeys(t *testing.T) {
	for _, bits := range []int{256, 0} {
		for _, m := range few() {
			x := filled(t, bits, m)
			for i, k := range wrongKeys() {
				for _, value := range [][]byte{nil, {7}, make([]byte, api.MaxValue), make([]byte, api.MaxValue+1)} {
					checkFailed(t, fmt.Sprintf("key %d of %d bytes", i, len(k)), x, m, k, value, api.ErrKey, api.ErrKey)
				}
			}
		}
	}
}

// P13.3: keys that are in the map and others, of maps of all kinds.
func TestGetOfKeys(t *testing.T) {
	eachMap(func(bits int, m plain.Map) {
		x := filled(t, bits, m)
		for _, k := range m.Queries() {
			i := slices.Index(m.Keys(), k)
			if i < 0 {
				checkAbsent(t, m.Name, x, k)
			} else {
				checkGet(t, m.Name, x, m.Members[i].Entry)
			}
		}
		checkMap(t, "after Get", x, m)
	})
}

// P13.3: the same keys are removed, and put again if they were in the map.
func TestDeleteOfKeys(t *testing.T) {
	eachMap(func(bits int, m plain.Map) {
		x, keys, l := filled(t, bits, m), m.Keys(), m.Queries()
		if len(keys) > 300 {
			l = l[:10]
		}
		for _, k := range l {
			rest, had := m.Remove(k)
			mustDelete(t, x, k, had)
			checkAbsent(t, m.Name, x, k)
			checkMap(t, "without a key", x, rest)
			mustDelete(t, x, k, false)
			if had {
				mustPut(t, x, m.Members[slices.Index(keys, k)].Entry)
			}
		}
		checkMap(t, "put again", x, m)
	})
}

// P13.3: Get and Delete from the map without keys, and from the map of one key.
func TestGetAndDeleteOfFewKeys(t *testing.T) {
	k := plain.Filled(0x5a)
	for _, bits := range plain.Bits() {
		x := empty(t, bits)
		for _, other := range plain.Neighbours(k) {
			checkAbsent(t, "no keys", x, other)
			mustDelete(t, x, other, false)
		}
		checkMap(t, "nothing deleted", x, plain.Map{Name: "no keys"})
		m := plain.OfKeys("one key", k)
		mustPut(t, x, m.Members[0].Entry)
		for _, other := range plain.Neighbours(k)[1:] {
			checkAbsent(t, "one key", x, other)
			mustDelete(t, x, other, false)
		}
		checkMap(t, "nothing deleted", x, m)
		checkGet(t, "one key", x, m.Members[0].Entry)
		mustDelete(t, x, k, true)
		checkMap(t, "deleted", x, plain.Map{Name: "no keys"})
		mustDelete(t, x, k, false)
	}
}

// P13.3: a key whose value has no bytes is in the map.
func TestAValueWithoutBytes(t *testing.T) {
	for _, value := range [][]byte{nil, {}, make([]byte, 0, 5)} {
		x := empty(t, 256)
		k := api.Key{64}
		mustPut(t, x, api.Entry{Key: k, Value: value})
		checkGet(t, "no bytes", x, api.Entry{Key: k})
		mustDelete(t, x, k, true)
		checkAbsent(t, "no bytes", x, k)
	}
}

// Rule 4 of the document: what is behind the length of a key or a value is neither read nor written.
func TestBehindTheLength(t *testing.T) {
	whole := bytes.Repeat([]byte{9}, 3*api.Size)
	old := slices.Clone(whole)
	x := empty(t, 256)
	if err := x.Put(whole[:api.Size], whole[api.Size:api.Size+5]); err != nil {
		t.Fatal(err)
	}
	m := plain.Map{Name: "nines"}.Put(api.Entry{Key: plain.Filled(9), Value: old[:5]})
	checkMap(t, "Put", x, m)
	checkGet(t, "nines", x, m.Members[0].Entry)
	checkFailed(t, "one byte too few", x, m, whole[:api.Size-1], nil, api.ErrKey, api.ErrKey)
	if !bytes.Equal(whole, old) {
		t.Error("an argument was changed")
	}
	if found, err := x.Delete(whole[:api.Size]); !found || err != nil {
		t.Errorf("Delete: %v, %v", found, err)
	}
}

// flip inverts all bits of bytes, and of what is behind their length.
func flip(b []byte) {
	b = b[:cap(b)]
	for i := range b {
		b[i] ^= 0xff
	}
}

// Rule 4 of the document: keys and values may be changed after the call.
func TestArgumentsThatAreChanged(t *testing.T) {
	for _, m := range few() {
		x := empty(t, 256)
		for _, e := range m.Mixed() {
			k, value := slices.Clone(e.Key[:]), slices.Clone(e.Value)
			if err := x.Put(k, value); err != nil {
				t.Fatal(err)
			}
			flip(k)
			flip(value)
		}
		checkMap(t, "changed after Put", x, m)
		for _, k := range []api.Key{{64}, {65}} {
			b := slices.Clone(k[:])
			x.Get(b)
			flip(b)
			rest, had := m.Remove(k)
			b = slices.Clone(k[:])
			if found, err := x.Delete(b); found != had || err != nil {
				t.Fatalf("Delete: %v, %v", found, err)
			}
			flip(b)
			checkMap(t, "changed after Get and Delete", x, rest)
			m = rest
		}
	}
}

// P13.3 and P13.6: results may be changed, as they share no memory with the map, or with each other.
func TestResultsThatAreChanged(t *testing.T) {
	for _, m := range append(few(), plain.Large()[2]) {
		x := filled(t, 256, m)
		for range 2 {
			for _, e := range m.Entries() {
				first, _, _ := x.Get(e.Key[:])
				second, _, _ := x.Get(e.Key[:])
				flip(first)
				if !bytes.Equal(second, e.Value) {
					t.Fatalf("%s: both values of %x were changed", m.Name, e.Key)
				}
				flip(second)
				checkGet(t, m.Name, x, e)
			}
			l, again := x.Entries(), x.Entries()
			for i := range l {
				flip(l[i].Value)
				l[i].Key = api.Key{77}
				if !slices.EqualFunc(l[i+1:], m.Entries()[i+1:], plain.Same) {
					t.Fatalf("%s: the entries behind %d were changed", m.Name, i)
				}
			}
			if !slices.EqualFunc(again, m.Entries(), plain.Same) {
				t.Fatalf("%s: other entries were changed", m.Name)
			}
			root := x.Root()
			flip(root[:])
			checkMap(t, "results were changed", x, m)
		}
	}
}

// P13.6: entries are in the order of their keys, also where these differ in one bit only, and whatever the order of the calls was.
func TestOrderOfEntries(t *testing.T) {
	for i := range api.Depth {
		k := plain.Filled(0x33)
		m := plain.OfKeys(fmt.Sprint("bit ", i), k, plain.Flipped(k, i))
		for _, l := range [][]api.Entry{m.Entries(), {m.Entries()[1], m.Entries()[0]}} {
			x := empty(t, 256)
			for _, e := range l {
				mustPut(t, x, e)
			}
			checkMap(t, "two keys", x, m)
		}
	}
}

// P13.6: Node gives a tree that is not changed later, with the root as its digest, and Hasher always the same hasher.
func TestNodeAndHasher(t *testing.T) {
	for _, bits := range plain.Bits() {
		x := empty(t, bits)
		h := x.Hasher()
		maps, trees := []plain.Map{{Name: "no keys"}}, []*node.Node{x.Node()}
		for _, e := range plain.Fives()[0].Mixed() {
			mustPut(t, x, e)
			maps, trees = append(maps, maps[len(maps)-1].Put(e)), append(trees, x.Node())
		}
		mustDelete(t, x, api.Key{64}, true)
		if err := x.Apply([]api.Update{unset(api.Key{}), set(api.Key{255}, "new")}); err != nil {
			t.Fatal(err)
		}
		if x.Hasher() != h || h.Bits() != bits {
			t.Errorf("another hasher, for %d bits", h.Bits())
		}
		other := plain.Hasher(bits)
		if node.Digest(h, x.Node()) != x.Root() {
			t.Errorf("the digest of the tree is %x, and the root %x", node.Digest(h, x.Node()), x.Root())
		}
		for i, m := range maps {
			if d := plain.Difference(other, trees[i], m.Tree(other)); d != "" {
				t.Errorf("%d bits, the tree of %d keys: %s", bits, i, d)
			}
		}
	}
}

// P13.6: the hasher of a Tree is the one that computes its digests.
func TestHasherComputesTheDigests(t *testing.T) {
	x := empty(t, 256)
	calls := 0
	for i, change := range []func(){
		func() { mustPut(t, x, api.Entry{Key: api.Key{64}}) },
		func() { mustPut(t, x, api.Entry{Key: api.Key{65}}) },
		func() { mustPut(t, x, api.Entry{Key: api.Key{66}}) },
		func() { mustDelete(t, x, api.Key{64}, true) },
		func() {
			if err := x.Apply([]api.Update{set(api.Key{1}, "one"), set(api.Key{2}, "two")}); err != nil {
				t.Fatal(err)
			}
		},
	} {
		change()
		if now := x.Hasher().Calls(); now <= calls {
			t.Errorf("change %d: %d digests, and %d before it", i, now, calls)
		}
		calls = x.Hasher().Calls()
	}
}

// history makes changes of a Tree, and returns the map after them.
func history(t *testing.T, x *Tree, m plain.Map, seed uint64) plain.Map {
	t.Helper()
	for i, k := range append(m.Queries(), plain.Scattered(seed, 20)...) {
		switch (uint64(i) + seed) % 3 {
		case 0:
			rest, had := m.Remove(k)
			mustDelete(t, x, k, had)
			m = rest
		case 1:
			e := api.Entry{Key: k, Value: []byte{byte(i), byte(seed)}}
			mustPut(t, x, e)
			m = m.Put(e)
		case 2:
			l := []api.Update{set(k, "applied"), unset(plain.Flipped(k, 3))}
			if err := x.Apply(l); err != nil {
				t.Fatal(err)
			}
			m = after(m, l)
		}
	}
	return m
}

// P13.6: changes of a Tree do not change its clone, and the other way round.
func TestClone(t *testing.T) {
	for _, bits := range plain.Bits() {
		for _, m := range append(few(), plain.Large()[2]) {
			x := filled(t, bits, m)
			y := x.Clone()
			if y == nil || y == x || y.Hasher() != x.Hasher() {
				t.Fatalf("%s: the same Tree, or another hasher", m.Name)
			}
			checkMap(t, "clone", y, m)
			changed := history(t, x, m, 1)
			checkMap(t, "Tree that was changed", x, changed)
			checkMap(t, "clone of a Tree that was changed", y, m)
			other := history(t, y, m, 2)
			checkMap(t, "clone that was changed", y, other)
			checkMap(t, "Tree with a clone that was changed", x, changed)
			z := y.Clone()
			third := history(t, z, other, 3)
			checkMap(t, "clone of a clone", z, third)
			checkMap(t, "clone that was cloned", y, other)
			checkMap(t, "first Tree", x, changed)
		}
	}
}

// P13.6: operations with errors change neither a Tree nor its clone.
func TestErrorsAndClones(t *testing.T) {
	m := plain.Fives()[0]
	x := filled(t, 256, m)
	y := x.Clone()
	checkFailed(t, "Tree", x, m, []byte{1}, nil, api.ErrKey, api.ErrKey)
	checkFailed(t, "clone", y, m, []byte{1}, nil, api.ErrKey, api.ErrKey)
	l := []api.Update{unset(api.Key{}), unset(api.Key{})}
	checkError(t, "Tree", x.Apply(l), "apply", 1, api.ErrDuplicate)
	checkError(t, "clone", y.Apply(l), "apply", 1, api.ErrDuplicate)
	checkMap(t, "Tree", x, m)
	checkMap(t, "clone", y, m)
}

// P13.6: a clone of a large map takes no more memory than one of the map without keys, and has the very same tree, so that nothing was made for its keys.
func TestCloneOfALargeMap(t *testing.T) {
	m := plain.Large()[4]
	large, small := filled(t, 256, m), empty(t, 256)
	if large.Clone().Node() != large.Node() {
		t.Error("the clone has a tree of its own")
	}
	if a, b := memory(large), memory(small); a > 2*b+1<<16 {
		t.Errorf("%d bytes for 1000 clones of a large map, and %d of a map without keys", a, b)
	}
}

// kept keeps the last clone that was made, so that clones are made at all.
var kept *Tree

// memory returns how many bytes 1000 clones of a Tree take.
func memory(x *Tree) uint64 {
	var before, after runtime.MemStats
	runtime.ReadMemStats(&before)
	for range 1000 {
		kept = x.Clone()
	}
	runtime.ReadMemStats(&after)
	return after.TotalAlloc - before.TotalAlloc
}

// P13.7: all orders of five keys lead to the same root, with other keys and values on the way.
func TestRootOfAllOrders(t *testing.T) {
	for _, bits := range []int{256, 1} {
		for _, m := range plain.Fives() {
			h := plain.Hasher(bits)
			want := node.Digest(h, m.Tree(h))
			plain.Orders(m.Entries(), func(l []api.Entry) {
				x := empty(t, bits)
				for i, e := range l {
					mustPut(t, x, api.Entry{Key: plain.Flipped(e.Key, 100+i), Value: []byte("on the way")})
					mustPut(t, x, api.Entry{Key: e.Key, Value: []byte("on the way")})
				}
				for i, e := range l {
					mustPut(t, x, e)
					mustDelete(t, x, plain.Flipped(e.Key, 100+i), true)
				}
				if x.Root() != want {
					t.Fatalf("%d bits, %s: the root %x, want %x", bits, m.Name, x.Root(), want)
				}
			})
		}
	}
}

// P13.7: a map has the same root after Put, after Apply, after detours over other maps, and in a clone.
func TestRootOfDetours(t *testing.T) {
	eachMap(func(bits int, m plain.Map) {
		h := plain.Hasher(bits)
		want := node.Digest(h, m.Tree(h))
		one := filled(t, bits, m)
		two := empty(t, bits)
		if err := two.Apply(updates(m.Mixed())); err != nil {
			t.Fatal(err)
		}
		three := filled(t, bits, plain.Fives()[2])
		l := updates(m.Mixed())
		for _, k := range plain.Fives()[2].Keys() {
			if !slices.Contains(m.Keys(), k) {
				l = append([]api.Update{unset(k)}, l...)
			}
		}
		if err := three.Apply(l); err != nil {
			t.Fatal(err)
		}
		four := three.Clone()
		for i, k := range plain.Scattered(44, 5) {
			mustPut(t, four, api.Entry{Key: k, Value: []byte{byte(i)}})
		}
		for _, k := range plain.Scattered(44, 5) {
			mustDelete(t, four, k, true)
		}
		for i, x := range []*Tree{one, two, three, four, four.Clone()} {
			if x.Root() != want {
				t.Fatalf("%d bits, %s, way %d: the root %x, want %x", bits, m.Name, i, x.Root(), want)
			}
		}
	})
}

// P13.7: with 256 bits, other maps have other roots.
func TestRootsOfOtherMaps(t *testing.T) {
	seen := map[api.Digest]string{}
	for i, m := range append(plain.Large(), plain.Fives()...) {
		x := filled(t, 256, m)
		for j, change := range []func(){
			func() {},
			func() { mustPut(t, x, api.Entry{Key: api.Key{30: 1, 31: 1}}) },
			func() { mustPut(t, x, api.Entry{Key: api.Key{30: 1, 31: 1}, Value: []byte{0}}) },
			func() { mustDelete(t, x, m.Keys()[1], true) },
		} {
			change()
			name := fmt.Sprintf("map %d, change %d", i, j)
			if other, ok := seen[x.Root()]; ok {
				t.Errorf("%s: the same root as %s", name, other)
			}
			seen[x.Root()] = name
		}
	}
}

// P2: Trees that were made separately are independent, and have hashers of their own.
func TestSeparateTrees(t *testing.T) {
	x, y := empty(t, 256), empty(t, 256)
	if x == y || x.Hasher() == y.Hasher() {
		t.Fatal("the same Tree or hasher")
	}
	checkMap(t, "a Tree", x, history(t, x, plain.Map{Name: "changed"}, 1))
	checkMap(t, "the other Tree", y, plain.Map{})
	if y.Hasher().Calls() > 1 {
		t.Errorf("%d digests were computed", y.Hasher().Calls())
	}
}

// The sentence below the function list: a nil Tree.
func TestNilTree(t *testing.T) {
	var x *Tree
	k := api.Key{64}
	long := make([]byte, api.MaxValue+1)
	for _, key := range [][]byte{nil, {}, k[:31], k[:], long} {
		for _, value := range [][]byte{nil, {7}, long} {
			checkError(t, "Put", x.Put(key, value), "put", 0, api.ErrNil)
		}
		value, ok, err := x.Get(key)
		checkError(t, "Get", err, "get", 0, api.ErrNil)
		found, other := x.Delete(key)
		checkError(t, "Delete", other, "delete", 0, api.ErrNil)
		if len(value) != 0 || ok || found {
			t.Errorf("Get: %x, %v, Delete: %v", value, ok, found)
		}
	}
	good := set(k, "a")
	for _, l := range [][]api.Update{nil, {}, {good}, {good, {}}, {good, good}, {{Key: k[:], Value: long}}} {
		checkError(t, "Apply", x.Apply(l), "apply", 0, api.ErrNil)
	}
	if x.Root() != (api.Digest{}) || x.Len() != 0 || len(x.Entries()) != 0 {
		t.Errorf("Root = %x, Len = %d, Entries = %x", x.Root(), x.Len(), x.Entries())
	}
	if x.Clone() != nil || x.Node() != nil || x.Hasher() != nil {
		t.Errorf("Clone = %v, Node = %v, Hasher = %v", x.Clone(), x.Node(), x.Hasher())
	}
}

// Rule 6 of the document: Trees that were made separately may be used concurrently.
func TestConcurrentCalls(t *testing.T) {
	m := plain.Large()[2]
	var wait sync.WaitGroup
	for range 8 {
		wait.Go(func() {
			x, errno := New(256)
			if errno != api.OK {
				t.Error(errno)
				return
			}
			if err := x.Apply(updates(m.Mixed())); err != nil {
				t.Error(err)
			}
			for _, e := range m.Mixed() {
				if value, ok, err := x.Get(e.Key[:]); !ok || err != nil || !bytes.Equal(value, e.Value) {
					t.Error("another value")
				}
				if found, err := x.Delete(e.Key[:]); !found || err != nil {
					t.Error("a key was not found")
				}
				if err := x.Put(e.Key[:], e.Value); err != nil {
					t.Error(err)
				}
			}
			if !slices.EqualFunc(x.Entries(), m.Entries(), plain.Same) {
				t.Error("other entries")
			}
		})
	}
	wait.Wait()
}

// The example of chapter 13.
func TestExample(t *testing.T) {
	for _, value := range [][]byte{nil, {7}} {
		err := empty(t, 256).Put(make([]byte, 31), value)
		if err == nil || err.Error() != "put 0: error 2" {
			t.Errorf("%v", err)
		}
	}
}
