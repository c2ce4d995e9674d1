package batch

import (
	"bytes"
	"fmt"
	"slices"
	"strings"
	"sync"
	"testing"

	"sparsetree/api"
	"sparsetree/digest"
	"sparsetree/find"
	"sparsetree/internal/plain"
	"sparsetree/node"
	"sparsetree/put"
	"sparsetree/remove"
)

// set is the change that puts a key with a value.
func set(k api.Key, value string) Change { return Change{Key: k, Value: []byte(value)} }

// unset is the change that removes a key.
func unset(k api.Key) Change { return Change{Key: k, Delete: true} }

// inOrder returns changes as a sorted list: without all but the first change of each key.
func inOrder(l ...Change) []Change {
	slices.SortStableFunc(l, func(a, b Change) int { return strings.Compare(plain.Text(a.Key), plain.Text(b.Key)) })
	return slices.CompactFunc(l, func(a, b Change) bool { return a.Key == b.Key })
}

// after is the map after changes.
func after(m plain.Map, l []Change) plain.Map {
	for _, c := range l {
		if c.Delete {
			m, _ = m.Remove(c.Key)
		} else {
			m = m.Put(api.Entry{Key: c.Key, Value: c.Value})
		}
	}
	return m
}

// values are the values of a map.
func values(m plain.Map) map[api.Key]string {
	v := map[api.Key]string{}
	for _, x := range m.Members {
		v[x.Entry.Key] = string(x.Entry.Value)
	}
	return v
}

// least are the fewest changes that lead from one map to another one.
func least(a, b plain.Map) []Change {
	var l []Change
	from, to := values(a), values(b)
	for k := range from {
		if _, ok := to[k]; !ok {
			l = append(l, unset(k))
		}
	}
	for k, value := range to {
		if old, ok := from[k]; !ok || old != value {
			l = append(l, set(k, value))
		}
	}
	return inOrder(l...)
}

// clone returns a copy of changes and of their values.
func clone(l []Change) []Change {
	copied := slices.Clone(l)
	for i, c := range copied {
		copied[i].Value = slices.Clone(c.Value)
	}
	return copied
}

// spoil changes a list and its values, and what is behind the length of a value.
func spoil(l []Change) {
	for i, c := range l {
		v := c.Value[:cap(c.Value)]
		for j := range v {
			v[j] ^= 0xff
		}
		l[i] = Change{Key: plain.Filled(0x77), Delete: !c.Delete}
	}
}

// same reports whether two changes are the same.
func same(a, b Change) bool {
	return a.Key == b.Key && a.Delete == b.Delete && bytes.Equal(a.Value, b.Value)
}

// text is the text of changes.
func text(l []Change) string {
	var s strings.Builder
	for _, c := range l {
		fmt.Fprintf(&s, " {%x %q %v}", c.Key, c.Value, c.Delete)
	}
	return s.String()
}

// checkChanges checks a list of changes.
func checkChanges(t *testing.T, name string, got, want []Change) {
	t.Helper()
	if !slices.EqualFunc(got, want, same) {
		t.Fatalf("%s: %d changes:%s, want %d:%s", name, len(got), text(got), len(want), text(want))
	}
}

// checkTree checks that a tree is the same one as another.
func checkTree(t *testing.T, name string, h *digest.Hasher, got, want *node.Node) {
	t.Helper()
	if d := plain.Difference(h, got, want); d != "" {
		t.Fatalf("%s: %s", name, d)
	}
}

// applied is the tree after changes that are sorted.
func applied(t *testing.T, name string, h *digest.Hasher, n *node.Node, l []Change) *node.Node {
	t.Helper()
	got, errno := Apply(h, n, l)
	if errno != api.OK {
		t.Fatalf("%s: Apply: %v", name, errno)
	}
	return got
}

// undone are the changes that undo changes that are sorted.
func undone(t *testing.T, name string, n *node.Node, l []Change) []Change {
	t.Helper()
	got, errno := Undo(n, l)
	if errno != api.OK {
		t.Fatalf("%s: Undo: %v", name, errno)
	}
	return got
}

// checkAll checks Apply, Diff and Undo for a map and changes that are sorted, and what follows from them.
func checkAll(t *testing.T, h *digest.Hasher, m plain.Map, l []Change) {
	t.Helper()
	name := fmt.Sprintf("%d bits, %s, %d changes", h.Bits(), m.Name, len(l))
	if len(l) < 5 {
		name += text(l)
	}
	tree, copied, next := m.Tree(h), clone(l), after(m, l)
	got := applied(t, name, h, tree, l)
	checkTree(t, name, h, got, next.Tree(h))
	back, forward := undone(t, name, tree, l), Diff(tree, got)
	checkChanges(t, name+", Undo", back, least(next, m))
	checkChanges(t, name+", Diff", forward, least(m, next))
	checkChanges(t, name+", Diff of the way back", Diff(got, tree), back)
	checkTree(t, name+", Diff applied", h, applied(t, name, h, tree, forward), got)
	checkTree(t, name+", undone", h, applied(t, name, h, got, back), tree)
	checkChanges(t, name+", the list", l, copied)
	checkTree(t, name+", the tree before", h, tree, m.Tree(h))
}

// eachMap calls a function with maps: with all maps for 256 bits, and with the smaller ones for few bits.
func eachMap(call func(h *digest.Hasher, m plain.Map)) {
	for _, bits := range plain.Bits() {
		h, l := plain.Hasher(bits), plain.Maps()
		if bits != 256 {
			l = l[:15]
		}
		for _, m := range l {
			call(h, m)
		}
	}
}

// some returns changes of some keys, as a function tells for each place in the list.
func some(l []api.Key, change func(i int, k api.Key) (Change, bool)) []Change {
	var changes []Change
	for i, k := range l {
		if c, ok := change(i, k); ok {
			changes = append(changes, c)
		}
	}
	return inOrder(changes...)
}

// removals returns the removals of the keys of a map whose places a function chooses.
func removals(m plain.Map, chosen func(i int) bool) []Change {
	return some(m.Keys(), func(i int, k api.Key) (Change, bool) { return unset(k), chosen(i) })
}

// P12.1: the entries of maps, also where they are none or one.
func TestBuildOfMaps(t *testing.T) {
	eachMap(func(h *digest.Hasher, m plain.Map) {
		l := m.Entries()
		got, errno := Build(h, l)
		if errno != api.OK {
			t.Fatalf("%s: %v", m.Name, errno)
		}
		checkTree(t, m.Name, h, got, m.Tree(h))
		if !slices.EqualFunc(l, m.Entries(), plain.Same) {
			t.Fatalf("%s: the list is another one", m.Name)
		}
	})
}

// P12.1 and P12.2: the nil list and lists without elements.
func TestListsWithoutElements(t *testing.T) {
	for _, bits := range plain.Bits() {
		h := plain.Hasher(bits)
		for _, l := range [][]api.Entry{nil, {}, make([]api.Entry, 0, 3)} {
			if got, errno := Build(h, l); got != nil || errno != api.OK {
				t.Errorf("Build: kind %d, %v", got.Kind(), errno)
			}
		}
		for _, m := range plain.Maps()[:10] {
			for _, l := range [][]Change{nil, {}, make([]Change, 0, 3)} {
				checkAll(t, h, m, l)
			}
		}
	}
}

// P12.1: the order in which Build gets keys is that of their bits, also where they differ in one only.
func TestBuildOfTwoKeys(t *testing.T) {
	h := plain.Hasher(256)
	for i := range api.Depth {
		k := plain.Filled(0x33)
		m := plain.OfKeys(fmt.Sprint("bit ", i), k, plain.Flipped(k, i))
		l := m.Entries()
		got, errno := Build(h, l)
		if errno != api.OK {
			t.Fatalf("%s: %v", m.Name, errno)
		}
		checkTree(t, m.Name, h, got, m.Tree(h))
		slices.Reverse(l)
		if got, errno := Build(h, l); got != nil || errno != api.ErrOrder {
			t.Fatalf("%s, descending: kind %d, %v", m.Name, got.Kind(), errno)
		}
	}
}

// unsorted are lists that are not sorted, with their errors.
func unsorted() map[api.Errno][][]Change {
	a, b, c, d := set(api.Key{}, "a"), set(api.Key{31: 1}, "b"), set(api.Key{64}, "c"), set(plain.Filled(255), "d")
	return map[api.Errno][][]Change{
		api.ErrOrder: {
			{b, a}, {d, a}, {b, a, c, d}, {a, b, d, c}, {a, c, b, d}, {d, c, b, a}, {b, a, a}, {a, b, a}, {a, c, b, b, a},
			{unset(b.Key), a}, {b, unset(a.Key)}, {unset(b.Key), unset(a.Key)}, {set(api.Key{128}, ""), set(api.Key{127, 31: 255}, "")},
		},
		api.ErrDuplicate: {
			{a, a}, {d, d}, {a, set(a.Key, "another")}, {a, a, b, c}, {a, b, c, d, d}, {a, b, b, d}, {a, a, d, c}, {b, b, a},
			{a, unset(a.Key)}, {unset(a.Key), a}, {unset(c.Key), unset(c.Key)}, {a, b, unset(c.Key), c},
		},
	}
}

// puts are the entries with the keys and values of changes.
func puts(l []Change) []api.Entry {
	var puts []api.Entry
	for _, c := range l {
		puts = append(puts, api.Entry{Key: c.Key, Value: c.Value})
	}
	return puts
}

// P12.1, P12.2 and P12.4: the error of a list that is not sorted is that of the first key that is not behind the one before it, and there is no other result.
func TestListsThatAreNotSorted(t *testing.T) {
	h := plain.Hasher(256)
	maps := append(plain.Maps()[:10], plain.OfKeys("0, 64, 255", api.Key{}, api.Key{64}, plain.Filled(255)))
	for want, lists := range unsorted() {
		for i, l := range lists {
			name := fmt.Sprintf("list %d with the error %d", i, want)
			copied := clone(l)
			if n, errno := Build(h, puts(l)); n != nil || errno != want {
				t.Errorf("%s: Build: kind %d, %v", name, n.Kind(), errno)
			}
			for _, m := range maps {
				tree := m.Tree(h)
				if n, errno := Apply(h, tree, l); n != nil || errno != want {
					t.Errorf("%s, %s: Apply: kind %d, %v", name, m.Name, n.Kind(), errno)
				}
				if back, errno := Undo(tree, l); len(back) != 0 || errno != want {
					t.Errorf("%s, %s: Undo:%s, %v", name, m.Name, text(back), errno)
				}
				checkTree(t, name, h, tree, m.Tree(h))
			}
			checkChanges(t, name, l, copied)
		}
	}
}

// P12.2: a single change of keys that are in the map and of others, which puts another value or the same one, or removes the key.
func TestApplyOfASingleChange(t *testing.T) {
	eachMap(func(h *digest.Hasher, m plain.Map) {
		l := m.Queries()[6:]
		if len(m.Members) > 20 {
			l = l[:3]
		}
		for _, k := range l[:min(len(l), 10)] {
			for _, c := range []Change{set(k, "new"), set(k, values(m)[k]), unset(k)} {
				checkAll(t, h, m, []Change{c})
			}
		}
	})
}

// P12.2: many changes of keys of all kinds at once.
func TestApplyOfManyChanges(t *testing.T) {
	eachMap(func(h *digest.Hasher, m plain.Map) {
		if len(m.Members) > 300 {
			return // TestApplyAndSingleChanges has these
		}
		l, old := append(m.Queries(), m.Keys()...), values(m)
		for _, x := range []func(i int, k api.Key) (Change, bool){
			func(i int, k api.Key) (Change, bool) { return unset(k), true },
			func(i int, k api.Key) (Change, bool) { return set(k, fmt.Sprint("new ", i)), true },
			func(i int, k api.Key) (Change, bool) { return set(k, old[k]), true },
			func(i int, k api.Key) (Change, bool) { return set(k, fmt.Sprint("new ", i)), i%2 == 0 },
			func(i int, k api.Key) (Change, bool) { return Change{k, []byte(old[k]), i%3 == 0}, true },
			func(i int, k api.Key) (Change, bool) { return Change{k, []byte("new"), i%3 == 1}, i%4 != 0 },
		} {
			checkAll(t, h, m, some(l, x))
		}
	})
}

// P12.2: all keys are removed, all but one, and every other one.
func TestApplyOfRemovals(t *testing.T) {
	eachMap(func(h *digest.Hasher, m plain.Map) {
		n := len(m.Members)
		if got := applied(t, m.Name, h, m.Tree(h), removals(m, func(int) bool { return true })); got != nil {
			t.Fatalf("%s: kind %d without all keys", m.Name, got.Kind())
		}
		for _, kept := range []int{0, n / 2, n - 1} {
			l := removals(m, func(i int) bool { return i != kept })
			if got := applied(t, m.Name, h, m.Tree(h), l); n > 0 && (got.Kind() != api.Full || got.Leaf().Key != m.Keys()[kept]) {
				t.Fatalf("%s: kind %d with the key %d only", m.Name, got.Kind(), kept)
			}
			checkAll(t, h, m, l)
		}
		checkAll(t, h, m, removals(m, func(i int) bool { return i%2 == 0 }))
		checkAll(t, h, m, removals(m, func(i int) bool { return i%2 == 1 }))
	})
}

// P12.2: all keys are removed while as many others are put.
func TestApplyOfOtherKeys(t *testing.T) {
	eachMap(func(h *digest.Hasher, m plain.Map) {
		for _, bit := range []int{0, 3, 255} {
			var l []Change
			for i, k := range m.Keys() {
				l = append(l, unset(k))
				if _, had := m.Remove(plain.Flipped(k, bit)); !had {
					l = append(l, set(plain.Flipped(k, bit), fmt.Sprint(i)))
				}
			}
			checkAll(t, h, m, inOrder(l...))
		}
	})
}

// P12.2 and P12.4: keys that are not in the map are removed from each kind of place, one by one and all at once, and nothing changes.
func TestRemovalsOfKeysThatAreNotInTheMap(t *testing.T) {
	a, b, c := api.Key{}, api.Key{1}, api.Key{64}
	others := []api.Key{{31: 1}, {1, 255}, {2}, {32}, {65}, {127}, {128}, plain.Filled(255)}
	for _, bits := range plain.Bits() {
		h := plain.Hasher(bits)
		for _, m := range []plain.Map{plain.OfKeys("no keys"), plain.OfKeys("0", a), plain.OfKeys("64", c), plain.OfKeys("0, 1", a, b), plain.OfKeys("0, 1, 64", a, b, c)} {
			all := some(others, func(i int, k api.Key) (Change, bool) { return unset(k), true })
			for _, l := range append([][]Change{all, all[:2], all[4:], all[6:]}, slices.Collect(slices.Chunk(all, 1))...) {
				tree := m.Tree(h)
				checkTree(t, m.Name, h, applied(t, m.Name, h, tree, l), tree)
				checkChanges(t, m.Name+", Undo", undone(t, m.Name, tree, l), nil)
				checkAll(t, h, m, l)
			}
		}
	}
}

// P12.2: the ways of the keys that are not in the map end at the places that the test above names.
func TestPlacesOfRemovals(t *testing.T) {
	h := plain.Hasher(256)
	for _, x := range []struct {
		name  string
		m     plain.Map
		key   api.Key
		kind  int
		depth int
	}{
		{"no keys", plain.OfKeys(""), api.Key{128}, api.Empty, 0},
		{"beside a leaf that is the tree", plain.OfKeys("", api.Key{64}), api.Key{128}, api.Full, 0},
		{"beside a leaf", plain.OfKeys("", api.Key{}, api.Key{1}, api.Key{64}), api.Key{65}, api.Full, 2},
		{"the other side has no keys", plain.OfKeys("", api.Key{}, api.Key{1}), api.Key{128}, api.Empty, 1},
		{"an empty subtree", plain.OfKeys("", api.Key{}, api.Key{1}), api.Key{2}, api.Empty, 7},
	} {
		tree := x.m.Tree(h)
		if end, depth := find.Locate(tree, x.key); end.Kind() != x.kind || depth != x.depth {
			t.Errorf("%s: the way ends at kind %d, depth %d", x.name, end.Kind(), depth)
		}
		checkTree(t, x.name, h, applied(t, x.name, h, tree, []Change{unset(x.key)}), tree)
	}
}

// P12.2: changes on both sides of a leaf, with and without one of the key of the leaf.
func TestChangesBesideALeaf(t *testing.T) {
	left, k, right := api.Key{63}, api.Key{64}, api.Key{64, 31: 1}
	for _, bits := range plain.Bits() {
		h := plain.Hasher(bits)
		for _, m := range []plain.Map{plain.OfKeys("64", k), plain.OfKeys("63, 64", left, k), plain.OfKeys("64, behind 64", k, right),
			plain.OfKeys("all three", left, k, right), plain.OfKeys("64, 192", k, api.Key{192}), plain.OfKeys("beside", left, right)} {
			for _, l := range [][]Change{
				{set(left, "new"), set(right, "new")},
				{unset(left), unset(right)},
				{set(left, "new"), unset(right)},
				{unset(left), set(right, "new")},
				{set(left, "new"), set(k, "new"), set(right, "new")},
				{set(left, "new"), unset(k), set(right, "new")},
				{unset(left), unset(k), unset(right)},
				{unset(left), set(k, "new"), unset(right)},
				{set(left, "new"), unset(k)},
				{unset(k), set(right, "new")},
			} {
				checkAll(t, h, m, l)
			}
		}
	}
}

// P12.2: changes that all lie on one side of the tree, or below one of its subtrees, leave the rest as it is.
func TestChangesOnOneSide(t *testing.T) {
	h := plain.Hasher(256)
	for _, m := range plain.Large()[2:] {
		for _, x := range []func(k api.Key) bool{
			func(k api.Key) bool { return k[0] < 128 },
			func(k api.Key) bool { return k[0] >= 128 },
			func(k api.Key) bool { return k[0]>>4 == 5 },
			func(k api.Key) bool { return k[0] == 0 && k[31] < 128 },
		} {
			checkAll(t, h, m, some(append(m.Keys(), plain.Scattered(5, 50)...), func(i int, k api.Key) (Change, bool) {
				return Change{Key: k, Value: []byte{byte(i)}, Delete: i%2 == 0}, x(k)
			}))
		}
	}
}

// P12.2: keys that differ in the first bit only and in the last bit only, with each change of each of them.
func TestKeysThatDifferInOneBit(t *testing.T) {
	for _, bits := range []int{256, 0} {
		h := plain.Hasher(bits)
		for _, i := range []int{0, 1, 128, 254, 255} {
			k := plain.Filled(0x33)
			other := plain.Flipped(k, i)
			for _, m := range []plain.Map{plain.OfKeys("none"), plain.OfKeys("this key", k), plain.OfKeys("other key", other), plain.OfKeys("both", k, other)} {
				for _, x := range []Change{set(k, "new"), unset(k)} {
					for _, y := range []Change{set(other, "new"), unset(other)} {
						checkAll(t, h, m, inOrder(x, y))
					}
				}
			}
		}
	}
}

// P12.2: a leaf moves up past all empty subtrees, and an inner node stays where it is, wherever many keys are removed at once.
func TestRemovalsBesideAWay(t *testing.T) {
	h := plain.Hasher(256)
	for _, k := range []api.Key{{}, plain.Filled(255), plain.Filled(0x5a)} {
		m := plain.OfKeys("beside", plain.Neighbours(k)...)
		for _, depth := range []int{0, 1, 100, 254, 255} {
			checkAll(t, h, m, removals(m, func(i int) bool { return m.Keys()[i] != k && m.Keys()[i] != plain.Flipped(k, depth) }))
			checkAll(t, h, m, removals(m, func(i int) bool { return m.Keys()[i] == k || m.Keys()[i] == plain.Flipped(k, depth) }))
		}
	}
}

// P12.2 and P12.4: a removal removes its key whatever its Value is.
func TestARemovalWithAValue(t *testing.T) {
	h := plain.Hasher(256)
	m := plain.OfKeys("0, 64, 255", api.Key{}, api.Key{64}, api.Key{255})
	for _, value := range []string{"x", values(m)[api.Key{64}], string(make([]byte, api.MaxValue+1))} {
		for _, k := range []api.Key{{64}, {65}, {128}} {
			l := []Change{{Key: k, Value: []byte(value), Delete: true}}
			checkAll(t, h, m, l)
			checkTree(t, m.Name, h, applied(t, m.Name, h, m.Tree(h), l), applied(t, m.Name, h, m.Tree(h), []Change{unset(k)}))
		}
	}
}

// P12.1 to P12.4: values without bytes are values, and long ones are kept as they are.
func TestValues(t *testing.T) {
	long := string(bytes.Repeat([]byte{7}, api.MaxValue+1))
	k := api.Key{64}
	for _, bits := range plain.Bits() {
		h := plain.Hasher(bits)
		for _, old := range []string{"", "\x00", long} {
			m := plain.OfKeys("0, 64", api.Key{}).Put(api.Entry{Key: k, Value: []byte(old)})
			for _, value := range []string{"", "\x00", long, long[1:]} {
				checkAll(t, h, m, []Change{set(k, value)})
			}
			checkAll(t, h, m, []Change{{Key: k}})
			checkAll(t, h, m, []Change{{Key: k, Value: []byte{}}})
			checkAll(t, h, m, []Change{unset(k)})
		}
	}
	h := plain.Hasher(256)
	n := applied(t, "without bytes", h, nil, []Change{{Key: k}})
	if value, ok := find.Get(n, k); !ok || len(value) != 0 {
		t.Errorf("without bytes: %x, %v", value, ok)
	}
	checkChanges(t, "from no value to nil", Diff(nil, n), []Change{{Key: k}})
	checkChanges(t, "from nil to no bytes", Diff(n, node.NewLeaf(h, api.Entry{Key: k, Value: []byte{}})), nil)
}

// P12.1 and P12.2: lists and values may be changed after the call, as the values are copied.
func TestListsThatAreChangedAfterTheCall(t *testing.T) {
	h := plain.Hasher(256)
	for _, m := range plain.Large()[:4] {
		l := m.Entries()
		for i := range l {
			l[i].Value = slices.Clone(l[i].Value)
		}
		built, _ := Build(h, l)
		for i := range l {
			for j := range l[i].Value {
				l[i].Value[j] ^= 0xff
			}
			l[i] = api.Entry{Key: plain.Filled(0x77)}
		}
		checkTree(t, m.Name+", Build", h, built, m.Tree(h))
		changes := some(append(m.Keys(), plain.Scattered(5, 9)...), func(i int, k api.Key) (Change, bool) { return Change{k, []byte{1, byte(i)}, i%3 == 0}, true })
		tree, next := m.Tree(h), after(m, clone(changes))
		got, back := applied(t, m.Name, h, tree, changes), undone(t, m.Name, tree, changes)
		spoil(changes)
		checkTree(t, m.Name+", Apply", h, got, next.Tree(h))
		checkTree(t, m.Name+", the tree before", h, tree, m.Tree(h))
		checkChanges(t, m.Name+", Undo", back, least(next, m))
	}
}

// P12.3 and P12.4: the results may be changed, and share no memory with the trees, with the list, or with each other.
func TestResultsThatAreChanged(t *testing.T) {
	h := plain.Hasher(256)
	for _, m := range plain.Large()[:4] {
		l := some(m.Keys(), func(i int, k api.Key) (Change, bool) { return Change{k, []byte{1, byte(i)}, i%3 == 0}, true })
		tree, copied, next := m.Tree(h), clone(l), after(m, l)
		got := applied(t, m.Name, h, tree, l)
		for range 2 {
			for _, x := range []struct {
				name string
				got  []Change
				want []Change
			}{{"Diff", Diff(tree, got), least(m, next)}, {"Diff back", Diff(got, tree), least(next, m)}, {"Undo", undone(t, m.Name, tree, l), least(next, m)}} {
				checkChanges(t, m.Name+", "+x.name, x.got, x.want)
				for i := range x.got {
					spoil(x.got[i : i+1])
					checkChanges(t, fmt.Sprintf("%s, %s, behind %d", m.Name, x.name, i), x.got[i+1:], x.want[i+1:])
				}
			}
		}
		checkChanges(t, m.Name+", the list", l, copied)
		checkTree(t, m.Name+", the tree before", h, tree, m.Tree(h))
		checkTree(t, m.Name+", the tree", h, got, next.Tree(h))
	}
}

// Rule 4 of the document: what is behind the length of a list is neither read nor written.
func TestBehindTheLengthOfAList(t *testing.T) {
	h := plain.Hasher(256)
	m := plain.OfKeys("0, 64, 255", api.Key{}, api.Key{64}, api.Key{255})
	whole := []Change{set(api.Key{1}, "a"), unset(api.Key{64}), set(api.Key{200}, "b"), set(api.Key{255}, "c"), unset(api.Key{}), unset(api.Key{})}
	copied := clone(whole)
	for n := range 5 {
		checkAll(t, h, m, whole[:n])
		checkChanges(t, fmt.Sprint("behind ", n), whole, copied)
	}
}

// P12.3: every two maps of a list of maps.
func TestDiffOfMaps(t *testing.T) {
	for _, bits := range plain.Bits() {
		h := plain.Hasher(bits)
		maps := append(plain.Maps()[:8], plain.Fives()...)
		maps = append(maps, plain.Large()[2], plain.Large()[6], plain.Large()[7])
		for _, a := range maps {
			for _, b := range maps {
				name := fmt.Sprintf("%d bits, from %s to %s", bits, a.Name, b.Name)
				from, to := a.Tree(h), b.Tree(h)
				l := Diff(from, to)
				checkChanges(t, name, l, least(a, b))
				checkTree(t, name, h, applied(t, name, h, from, l), to)
				checkChanges(t, name+", undone", undone(t, name, from, l), least(b, a))
				checkTree(t, name+", the first tree", h, from, a.Tree(h))
				checkTree(t, name+", the second tree", h, to, b.Tree(h))
			}
		}
	}
}

// P12.3: nothing leads from a tree to itself, or to another one of the same map.
func TestDiffOfATreeAndItself(t *testing.T) {
	eachMap(func(h *digest.Hasher, m plain.Map) {
		tree := m.Tree(h)
		checkChanges(t, m.Name, Diff(tree, tree), nil)
		checkChanges(t, m.Name+", made twice", Diff(tree, m.Tree(h)), nil)
		checkChanges(t, m.Name+", in another order", Diff(tree, put.All(h, nil, m.Mixed())), nil)
	})
}

// P12.3: from the tree without keys, all keys are put, and to it, all are removed.
func TestDiffAndTheTreeWithoutKeys(t *testing.T) {
	checkChanges(t, "no keys", Diff(nil, nil), nil)
	eachMap(func(h *digest.Hasher, m plain.Map) {
		tree := m.Tree(h)
		l := Diff(nil, tree)
		checkChanges(t, m.Name+", from no keys", l, least(plain.Map{}, m))
		if len(l) != tree.Len() || slices.ContainsFunc(l, func(c Change) bool { return c.Delete }) {
			t.Fatalf("%s: %d changes of %d keys", m.Name, len(l), tree.Len())
		}
		checkTree(t, m.Name, h, applied(t, m.Name, h, nil, l), tree)
		checkChanges(t, m.Name+", to no keys", Diff(tree, nil), removals(m, func(int) bool { return true }))
	})
}

// P12.3: the same keys with different values, where digests of few bits do not tell them apart.
func TestDiffOfTheSameKeys(t *testing.T) {
	eachMap(func(h *digest.Hasher, m plain.Map) {
		for _, each := range []int{1, 2, 7} {
			other := after(m, some(m.Keys(), func(i int, k api.Key) (Change, bool) { return set(k, fmt.Sprint("other ", i)), i%each == 0 }))
			a, b := m.Tree(h), other.Tree(h)
			l := Diff(a, b)
			if want := (len(m.Members) + each - 1) / each; len(l) != want {
				t.Fatalf("%d bits, %s: %d changes, want %d", h.Bits(), m.Name, len(l), want)
			}
			checkChanges(t, m.Name, l, least(m, other))
			checkChanges(t, m.Name+", back", Diff(b, a), least(other, m))
		}
	})
}

// P12.4: only what has changed is undone: neither removals of keys that are not in the map nor puts of the same value.
func TestUndoOfChangesThatChangeNothing(t *testing.T) {
	eachMap(func(h *digest.Hasher, m plain.Map) {
		tree, old := m.Tree(h), values(m)
		l := some(append(m.Queries(), m.Keys()...), func(i int, k api.Key) (Change, bool) {
			value, ok := old[k]
			return Change{Key: k, Value: []byte(value), Delete: !ok}, true
		})
		checkChanges(t, m.Name, undone(t, m.Name, tree, l), nil)
		checkAll(t, h, m, l)
		if len(m.Members) > 0 {
			k := m.Keys()[0]
			more := inOrder(append([]Change{set(k, "new")}, l...)...)
			checkChanges(t, m.Name+", one change", undone(t, m.Name, tree, more), []Change{set(k, old[k])})
		}
	})
}

// P12.4: what is undone is put with the value of before, or removed if it was not there.
func TestUndo(t *testing.T) {
	for _, bits := range plain.Bits() {
		h := plain.Hasher(bits)
		n := put.All(h, nil, []api.Entry{{Key: api.Key{1}, Value: []byte("one")}, {Key: api.Key{2}}, {Key: api.Key{3}, Value: []byte("three")}})
		l := []Change{set(api.Key{}, "new"), unset(api.Key{1}), set(api.Key{2}, "two"), set(api.Key{3}, "three"), unset(api.Key{4}), {Key: api.Key{5}}}
		want := []Change{unset(api.Key{}), set(api.Key{1}, "one"), {Key: api.Key{2}}, unset(api.Key{5})}
		checkChanges(t, fmt.Sprint(bits, " bits"), undone(t, "Undo", n, l), want)
		checkChanges(t, "no keys", undone(t, "Undo", nil, l), []Change{unset(api.Key{}), unset(api.Key{2}), unset(api.Key{3}), unset(api.Key{5})})
	}
}

// choices calls a function with each list of changes of some keys: none, a removal, or one of two values for each key.
func choices(l []plain.Member, call func(l []Change)) {
	if len(l) == 0 {
		call(nil)
		return
	}
	x := l[0].Entry
	choices(l[1:], func(rest []Change) {
		call(rest)
		for _, c := range []Change{unset(x.Key), {Key: x.Key, Value: x.Value}, set(x.Key, "another value")} {
			call(append([]Change{c}, rest...))
		}
	})
}

// P12.2 to P12.5: all maps of some of a few keys, with all changes of them.
func TestAllChangesOfFewKeys(t *testing.T) {
	h := plain.Hasher(256)
	for _, five := range plain.Fives() {
		few := five.Members[:4]
		if five.Members[1].Entry.Key == (api.Key{31: 1}) {
			few = five.Members[2:] // these have hundreds of nodes above them
		}
		for chosen := range 1 << len(few) {
			m := plain.Map{Name: fmt.Sprintf("%s, %04b", five.Name, chosen)}
			for i, x := range few {
				if chosen>>i&1 != 0 {
					m.Members = append(m.Members, x)
				}
			}
			choices(few, func(l []Change) { checkAll(t, h, m, l) })
		}
	}
}

// P12.2 and P12.5: changes one by one, by the layers below, lead to the same tree as all at once.
func TestApplyAndSingleChanges(t *testing.T) {
	h := plain.Hasher(256)
	for _, m := range plain.Large() {
		l := some(append(m.Queries(), m.Keys()...), func(i int, k api.Key) (Change, bool) { return Change{k, []byte{byte(i)}, i%2 == 0}, true })
		tree := m.Tree(h)
		want := tree
		for _, c := range l {
			if c.Delete {
				want, _ = remove.Remove(h, want, c.Key)
			} else {
				want = put.Put(h, want, api.Entry{Key: c.Key, Value: c.Value})
			}
		}
		checkTree(t, m.Name, h, applied(t, m.Name, h, tree, l), want)
	}
}

// P12.5 and P2: a history of changes is undone step by step, and all trees of it remain as they were.
func TestHistory(t *testing.T) {
	for _, bits := range []int{256, 0, 12} {
		h := plain.Hasher(bits)
		keys := append(plain.Scattered(3, 40), plain.Neighbours(plain.Filled(0xaa))[:20]...)
		maps, trees, undo := []plain.Map{{Name: "history"}}, []*node.Node{nil}, [][]Change{nil}
		for step := range 25 {
			m, tree := maps[step], trees[step]
			l := some(keys, func(i int, k api.Key) (Change, bool) {
				return Change{k, []byte{byte(i * step % 3)}, (i+step)%4 == 0}, (i*7+step*5)%11 < 3
			})
			undo = append(undo, undone(t, m.Name, tree, l))
			maps, trees = append(maps, after(m, l)), append(trees, applied(t, m.Name, h, tree, l))
		}
		tree := trees[25]
		for step := 25; step > 0; step-- {
			checkTree(t, fmt.Sprint("step ", step), h, tree, maps[step].Tree(h))
			tree = applied(t, "back", h, tree, undo[step])
			if node.Digest(h, tree) != node.Digest(h, trees[step-1]) {
				t.Fatalf("step %d: the digest is not restored", step)
			}
			checkTree(t, fmt.Sprint("tree ", step), h, trees[step], maps[step].Tree(h))
		}
	}
}

// P1: the functions also return for subtrees that are no trees of maps, where the ways of keys end at leaves with other bits or do not end in time.
func TestArgumentsBeyondTheChapter(t *testing.T) {
	h := plain.Hasher(256)
	a, b := node.NewLeaf(h, api.Entry{Key: api.Key{}}), node.NewLeaf(h, api.Entry{Key: api.Key{128}})
	deep := node.Join(h, b, a)
	for range 300 {
		deep = node.Join(h, deep, a)
	}
	for _, n := range []*node.Node{node.Join(h, b, a), node.Join(h, a, a), deep} {
		for _, l := range [][]Change{{unset(api.Key{})}, {set(api.Key{}, "new")}, {set(api.Key{}, "new"), unset(api.Key{31: 1}), set(plain.Filled(255), "new")}} {
			got, errno := Apply(h, n, l)
			if _, other := Undo(n, l); errno != api.OK || other != api.OK {
				t.Errorf("%v, %v", errno, other)
			}
			Diff(n, got)
			Diff(got, n)
		}
	}
}

// Rule 6 of the document: the functions may be called concurrently, with a hasher for each goroutine, and the same trees and lists.
func TestConcurrentCalls(t *testing.T) {
	h := plain.Hasher(256)
	m := plain.Large()[3]
	l := some(append(m.Keys(), plain.Scattered(5, 50)...), func(i int, k api.Key) (Change, bool) { return Change{k, []byte{byte(i)}, i%2 == 0}, true })
	next := after(m, l)
	tree, changed, all := m.Tree(h), next.Tree(h), m.Entries()
	var wait sync.WaitGroup
	for range 8 {
		own := h.Fork()
		wait.Go(func() {
			built, _ := Build(own, all)
			got, _ := Apply(own, tree, l)
			back, _ := Undo(tree, l)
			forward := Diff(tree, changed)
			if plain.Difference(own, built, tree) != "" || plain.Difference(own, got, changed) != "" {
				t.Error("another tree")
			}
			if !slices.EqualFunc(back, least(next, m), same) || !slices.EqualFunc(forward, least(m, next), same) {
				t.Error("other changes")
			}
			spoil(back)
			spoil(forward)
		})
	}
	wait.Wait()
}

// The example of chapter 12.
func TestExample(t *testing.T) {
	for _, bits := range plain.Bits() {
		h := plain.Hasher(bits)
		one, two, three := api.Entry{Key: api.Key{1}, Value: []byte("one")}, api.Entry{Key: api.Key{2}, Value: []byte("two")}, api.Entry{Key: api.Key{3}, Value: []byte("three")}
		a, _ := Build(h, []api.Entry{one, two})
		b, _ := Build(h, []api.Entry{two, three})
		checkChanges(t, "the same value", Diff(a, b), []Change{unset(one.Key), set(three.Key, "three")})
		two.Value = []byte("another")
		b, _ = Build(h, []api.Entry{two, three})
		checkChanges(t, "another value", Diff(a, b), []Change{unset(one.Key), set(two.Key, "another"), set(three.Key, "three")})
	}
}
