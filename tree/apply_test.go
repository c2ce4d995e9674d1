package tree

import (
	"bytes"
	"fmt"
	"slices"
	"testing"

	"sparsetree/api"
	"sparsetree/internal/plain"
)

// set is the update that sets the value of a key.
func set(k api.Key, value string) api.Update {
	return api.Update{Key: slices.Clone(k[:]), Value: []byte(value)}
}

// unset is the update that removes a key.
func unset(k api.Key) api.Update { return api.Update{Key: slices.Clone(k[:]), Delete: true} }

// updates are updates that set the values of entries.
func updates(l []api.Entry) []api.Update {
	var made []api.Update
	for _, e := range l {
		made = append(made, set(e.Key, string(e.Value)))
	}
	return made
}

// after is the map after updates without errors.
func after(m plain.Map, l []api.Update) plain.Map {
	for _, u := range l {
		if u.Delete {
			m, _ = m.Remove(api.Key(u.Key))
		} else {
			m = m.Put(api.Entry{Key: api.Key(u.Key), Value: u.Value})
		}
	}
	return m
}

// copied returns a copy of updates, of their keys and of their values.
func copied(l []api.Update) []api.Update {
	l = slices.Clone(l)
	for i, u := range l {
		l[i].Key, l[i].Value = slices.Clone(u.Key), slices.Clone(u.Value)
	}
	return l
}

// sameUpdate reports whether two updates are the same.
func sameUpdate(a, b api.Update) bool {
	return bytes.Equal(a.Key, b.Key) && bytes.Equal(a.Value, b.Value) && a.Delete == b.Delete
}

// checkApply checks Apply of updates without errors to a map, also where they are made one by one.
func checkApply(t *testing.T, bits int, m plain.Map, l []api.Update) {
	t.Helper()
	name := fmt.Sprintf("%d updates", len(l))
	x, single, old := filled(t, bits, m), filled(t, bits, m), copied(l)
	if err := x.Apply(l); err != nil {
		t.Fatalf("%d bits, %s, %s: %v", bits, m.Name, name, err)
	}
	if !slices.EqualFunc(l, old, sameUpdate) {
		t.Fatalf("%s, %s: the list was changed", m.Name, name)
	}
	next := after(m, l)
	checkMap(t, name, x, next)
	for _, u := range l {
		if u.Delete {
			if _, err := single.Delete(u.Key); err != nil {
				t.Fatal(err)
			}
		} else if err := single.Put(u.Key, u.Value); err != nil {
			t.Fatal(err)
		}
	}
	checkMap(t, name+", one by one", single, next)
}

// checkRefused checks that Apply of updates returns an error, and changes nothing.
func checkRefused(t *testing.T, name string, x *Tree, m plain.Map, l []api.Update, at int, code api.Errno) {
	t.Helper()
	old, root, calls := copied(l), x.Node(), x.Hasher().Calls()
	checkError(t, name, x.Apply(l), "apply", at, code)
	if x.Node() != root || x.Hasher().Calls() != calls {
		t.Fatalf("%s: an error with an effect", name)
	}
	if !slices.EqualFunc(l, old, sameUpdate) {
		t.Fatalf("%s: the list was changed", name)
	}
	checkMap(t, name, x, m)
}

// P13.4: the nil list and the list of no updates change nothing.
func TestApplyOfNoUpdates(t *testing.T) {
	for _, bits := range plain.Bits() {
		for _, m := range few() {
			for _, l := range [][]api.Update{nil, {}, make([]api.Update, 0, 3)} {
				checkApply(t, bits, m, l)
			}
		}
	}
}

// P13.4: one update, of keys that are in the map and of others.
func TestApplyOfOneUpdate(t *testing.T) {
	for _, bits := range plain.Bits() {
		for _, m := range few() {
			for _, k := range append(m.Keys(), api.Key{65}, api.Key{31: 9}, plain.Filled(254)) {
				for _, u := range []api.Update{set(k, "new"), set(k, ""), {Key: k[:]}, unset(k), set(k, string(make([]byte, api.MaxValue)))} {
					checkApply(t, bits, m, []api.Update{u})
				}
			}
		}
	}
}

// P13.4: updates in ascending, descending and mixed order.
func TestApplyOfMaps(t *testing.T) {
	eachMap(func(bits int, m plain.Map) {
		descending := m.Entries()
		slices.Reverse(descending)
		for _, l := range [][]api.Entry{m.Entries(), descending, m.Mixed()} {
			checkApply(t, bits, plain.OfKeys("no keys"), updates(l))
			checkApply(t, bits, plain.Fives()[2], updates(l))
		}
	})
}

// P13.4: some keys are removed, some get other values, and others are put, in several orders.
func TestApplyOfChanges(t *testing.T) {
	for _, bits := range plain.Bits() {
		for _, m := range append(few(), plain.Fives()[2], plain.Large()[2], plain.Large()[3]) {
			var l []api.Update
			for i, k := range m.Keys() {
				switch i % 3 {
				case 0:
					l = append(l, unset(k))
				case 1:
					l = append(l, set(k, fmt.Sprint("new ", i)))
				}
			}
			for i, k := range plain.Scattered(33, 12) {
				l = append(l, api.Update{Key: k[:], Value: []byte{byte(i)}, Delete: i%4 == 0})
			}
			checkApply(t, bits, m, l)
			slices.Reverse(l)
			checkApply(t, bits, m, l)
			checkApply(t, bits, m, slices.Concat(l[len(l)/2:], l[:len(l)/2]))
			slices.SortFunc(l, func(a, b api.Update) int { return bytes.Compare(a.Key, b.Key) })
			checkApply(t, bits, m, l)
		}
	}
}

// P13.4: all orders of changes of four keys.
func TestApplyOfAllOrders(t *testing.T) {
	for _, m := range plain.Fives() {
		k := m.Keys()
		l := []api.Update{unset(k[0]), set(k[1], "new"), set(api.Key{200}, "other"), unset(api.Key{201})}
		x := filled(t, 256, m)
		if err := x.Apply(l); err != nil {
			t.Fatal(err)
		}
		plain.Orders(l, func(l []api.Update) {
			y := filled(t, 256, m)
			if err := y.Apply(l); err != nil {
				t.Fatal(err)
			}
			if y.Root() != x.Root() {
				t.Fatalf("%s: another root", m.Name)
			}
			checkMap(t, "all orders", y, after(m, l))
		})
	}
}

// P13.4: keys that are not in the map are removed, one by one and all at once, and nothing changes.
func TestApplyOfRemovalsOfOtherKeys(t *testing.T) {
	for _, bits := range plain.Bits() {
		for _, m := range few() {
			var l []api.Update
			for _, k := range []api.Key{{31: 9}, {1}, {65}, {64, 31: 1}, {130}, plain.Filled(254)} {
				if !slices.Contains(m.Keys(), k) {
					l = append(l, unset(k))
					checkApply(t, bits, m, l[len(l)-1:])
				}
			}
			checkApply(t, bits, m, l)
			x := filled(t, bits, m)
			if err := x.Apply(l); err != nil {
				t.Fatal(err)
			}
			checkMap(t, "other keys", x, m)
		}
	}
}

// P13.4: all keys are removed, and all but one.
func TestApplyOfRemovals(t *testing.T) {
	for _, bits := range plain.Bits() {
		for _, m := range append(few(), plain.Large()[2]) {
			var l []api.Update
			for _, e := range m.Mixed() {
				l = append(l, unset(e.Key))
			}
			checkApply(t, bits, m, l)
			if len(l) > 0 {
				checkApply(t, bits, m, l[1:])
				checkApply(t, bits, m, l[:len(l)-1])
			}
		}
	}
}

// P13.4: a removal removes its key whatever its Value is, which may also be too long.
func TestApplyOfRemovalsWithAValue(t *testing.T) {
	for _, bits := range []int{256, 0} {
		for _, m := range few() {
			for _, n := range []int{1, api.MaxValue, api.MaxValue + 1, 1 << 17} {
				value := make([]byte, n)
				one, two, three := api.Key{64}, api.Key{65}, api.Key{}
				l := []api.Update{{Key: one[:], Value: value, Delete: true}, {Key: two[:], Value: value, Delete: true}, {Key: three[:], Value: []byte{3}}}
				checkApply(t, bits, m, l[:1])
				checkApply(t, bits, m, l[1:2])
				checkApply(t, bits, m, l)
			}
		}
	}
}

// P13.4 and P13.5: updates with the same key, next to each other and apart, of which one or both remove.
func TestApplyOfTheSameKeyTwice(t *testing.T) {
	k := api.Key{64}
	others := []api.Update{set(api.Key{1}, "1"), unset(api.Key{255}), set(api.Key{200}, "200"), set(api.Key{64, 31: 1}, "beside")}
	tooLong := api.Update{Key: k[:], Value: make([]byte, api.MaxValue+1), Delete: true}
	choices := []api.Update{set(k, "a"), set(k, "b"), unset(k), tooLong}
	for _, m := range few() {
		x := filled(t, 256, m)
		for _, first := range choices {
			for _, second := range choices {
				for i := range len(others) + 1 {
					for j := i; j <= len(others); j++ {
						l := slices.Concat(others[:i], []api.Update{first}, others[i:j], []api.Update{second}, others[j:])
						checkRefused(t, fmt.Sprint("at ", i, " and ", j+1), x, m, l, j+1, api.ErrDuplicate)
					}
				}
			}
		}
	}
}

// P13.4: of several keys that are there twice or more often, the first second one counts.
func TestApplyOfSeveralKeysTwice(t *testing.T) {
	a, b, c := set(api.Key{}, "a"), set(api.Key{64}, "b"), unset(plain.Filled(255))
	m := few()[3]
	x := filled(t, 256, m)
	for _, test := range []struct {
		l  []api.Update
		at int
	}{
		{[]api.Update{a, a}, 1}, {[]api.Update{a, a, a}, 1}, {[]api.Update{a, b, b, a}, 2}, {[]api.Update{a, b, a, b}, 2},
		{[]api.Update{b, a, c, c, b, a}, 3}, {[]api.Update{c, b, a, a}, 3}, {[]api.Update{c, b, a, c}, 3}, {[]api.Update{c, c, b, b, a, a}, 1},
	} {
		checkRefused(t, fmt.Sprint(len(test.l), " updates"), x, m, test.l, test.at, api.ErrDuplicate)
	}
}

// wrong is an update with the error that it has by itself.
type wrong struct {
	update api.Update
	code   api.Errno
}

// wrongUpdates are updates with keys of wrong lengths, and with values that are too long.
func wrongUpdates() []wrong {
	long := make([]byte, api.MaxValue+1)
	k := api.Key{77}
	l := []wrong{{api.Update{Key: k[:], Value: long}, api.ErrValue}, {api.Update{Key: k[:], Value: make([]byte, 1<<17)}, api.ErrValue}}
	for _, b := range wrongKeys() {
		for _, value := range [][]byte{nil, {7}, long} {
			l = append(l, wrong{api.Update{Key: b, Value: value}, api.ErrKey}, wrong{api.Update{Key: b, Value: value, Delete: true}, api.ErrKey})
		}
	}
	return l
}

// P13.4: the update with an error may be at each place of a list, and its error is the first one of those that it has.
func TestApplyOfOneWrongUpdate(t *testing.T) {
	good := []api.Update{set(api.Key{255}, "255"), set(api.Key{64}, "64"), unset(api.Key{}), set(api.Key{1}, "")}
	for _, m := range few() {
		x := filled(t, 256, m)
		for i, w := range wrongUpdates() {
			for at := range len(good) + 1 {
				l := slices.Insert(slices.Clone(good), at, w.update)
				checkRefused(t, fmt.Sprintf("wrong update %d at %d", i, at), x, m, l, at, w.code)
			}
			checkRefused(t, fmt.Sprintf("wrong update %d alone", i), x, m, []api.Update{w.update}, 0, w.code)
		}
	}
}

// P13.4: of several wrong updates, the first one counts, and of several errors of an update, the one that the chapter mentions first.
func TestApplyOfSeveralWrongUpdates(t *testing.T) {
	a, b := api.Key{64}, api.Key{65}
	long := make([]byte, api.MaxValue+1)
	good, other := set(a, "a"), set(b, "b")
	key, value := api.Update{Key: a[:31]}, api.Update{Key: b[:], Value: long}
	again := api.Update{Key: a[:], Value: long} // behind good, it has the errors ErrValue and ErrDuplicate
	both := api.Update{Key: a[:0], Value: long}
	gone := api.Update{Key: a[:], Value: long, Delete: true}
	for i, test := range []struct {
		l    []api.Update
		at   int
		code api.Errno
	}{
		{[]api.Update{key, value, good, good}, 0, api.ErrKey},
		{[]api.Update{value, key, good, good}, 0, api.ErrValue},
		{[]api.Update{good, good, key, value}, 1, api.ErrDuplicate},
		{[]api.Update{good, key, good, value}, 1, api.ErrKey},
		{[]api.Update{good, value, good, key}, 1, api.ErrValue},
		{[]api.Update{good, other, good, key}, 2, api.ErrDuplicate},
		{[]api.Update{good, other, good, value}, 2, api.ErrDuplicate},
		{[]api.Update{good, key, key}, 1, api.ErrKey},
		{[]api.Update{key, key}, 0, api.ErrKey},
		{[]api.Update{value, value}, 0, api.ErrValue},
		{[]api.Update{good, again}, 1, api.ErrValue},
		{[]api.Update{good, other, again}, 2, api.ErrValue},
		{[]api.Update{again, good}, 0, api.ErrValue},
		{[]api.Update{good, gone}, 1, api.ErrDuplicate},
		{[]api.Update{gone, good}, 1, api.ErrDuplicate},
		{[]api.Update{gone, again}, 1, api.ErrValue},
		{[]api.Update{gone, gone}, 1, api.ErrDuplicate},
		{[]api.Update{both, value}, 0, api.ErrKey},
		{[]api.Update{good, other, both}, 2, api.ErrKey},
		{[]api.Update{gone, other, both, gone}, 2, api.ErrKey},
		{[]api.Update{other, good, {}, good}, 2, api.ErrKey},
		{[]api.Update{other, good, good, {}}, 2, api.ErrDuplicate},
		{[]api.Update{{Delete: true}, good, good}, 0, api.ErrKey},
	} {
		for _, m := range few() {
			for _, bits := range []int{256, 0} {
				checkRefused(t, fmt.Sprint("list ", i), filled(t, bits, m), m, test.l, test.at, test.code)
			}
		}
	}
}

// P13.4: a wrong update at the end of a long list, and a key that is there at the beginning and at the end.
func TestApplyOfALongListWithAnError(t *testing.T) {
	m := plain.Fives()[0]
	x := filled(t, 256, m)
	l := updates(plain.Large()[4].Mixed())
	n := len(l)
	checkRefused(t, "wrong key", x, m, append(l[:n:n], api.Update{}), n, api.ErrKey)
	checkRefused(t, "wrong value", x, m, append(l[:n:n], api.Update{Key: make([]byte, 32), Value: make([]byte, api.MaxValue+1)}), n, api.ErrValue)
	checkRefused(t, "the first key again", x, m, append(l[:n:n], l[0]), n, api.ErrDuplicate)
	checkRefused(t, "the last key again", x, m, append(l[:n:n], l[n-1]), n, api.ErrDuplicate)
	if err := x.Apply(l); err != nil {
		t.Fatal(err)
	}
	checkMap(t, "without an error", x, after(m, l))
}

// P13.5: after an error, the same updates without the wrong one are made as if nothing had happened.
func TestApplyAfterAnError(t *testing.T) {
	for _, m := range few() {
		x := filled(t, 256, m)
		l := []api.Update{set(api.Key{3}, "3"), unset(api.Key{64}), set(api.Key{2}, "2")}
		checkRefused(t, "first", x, m, append(l[:3:3], l[0]), 3, api.ErrDuplicate)
		checkRefused(t, "second", x, m, append(l[:3:3], api.Update{}), 3, api.ErrKey)
		if err := x.Apply(l); err != nil {
			t.Fatal(err)
		}
		m = after(m, l)
		checkMap(t, "after an error", x, m)
		// The keys that were seen in one list are not those of another one.
		if err := x.Apply(l); err != nil {
			t.Fatal(err)
		}
		checkMap(t, "again", x, m)
	}
}

// Rule 4 of the document: keys, values and the list may be changed after the call.
func TestUpdatesThatAreChanged(t *testing.T) {
	for _, m := range append(few(), plain.Large()[2]) {
		x := empty(t, 256)
		l := updates(m.Mixed())
		if err := x.Apply(l); err != nil {
			t.Fatal(err)
		}
		for i := range l {
			flip(l[i].Key)
			flip(l[i].Value)
			l[i] = api.Update{Key: []byte{1}, Delete: true}
		}
		checkMap(t, "changed after Apply", x, m)
	}
}

// Rule 4 of the document: what is behind the length of a list is neither read nor written, and parts of a list may share memory.
func TestUpdatesThatShareMemory(t *testing.T) {
	memory := slices.Concat(make([]byte, api.Size), bytes.Repeat([]byte{9}, api.Size), make([]byte, api.Size))
	old := slices.Clone(memory)
	l := []api.Update{
		{Key: memory[:32], Value: memory[16:40]}, {Key: memory[32:64], Value: memory[:96]}, {Key: memory[16:48], Value: memory}, {Key: memory[1:2]}, {Key: memory[:32]},
	}
	for n := range 4 {
		x := empty(t, 256)
		if err := x.Apply(l[:n]); err != nil {
			t.Fatal(err)
		}
		checkMap(t, fmt.Sprint(n, " updates"), x, after(plain.Map{}, l[:n]))
	}
	checkRefused(t, "one more", empty(t, 256), plain.Map{}, l[:4], 3, api.ErrKey)
	if !bytes.Equal(memory, old) {
		t.Error("an argument was changed")
	}
}

// P13.4 and P13.7: a history of long lists, with the map after each of them.
func TestHistory(t *testing.T) {
	keys := append(plain.Scattered(3, 40), plain.Neighbours(plain.Filled(0xaa))[:20]...)
	for _, bits := range []int{256, 0, 12} {
		x, m := empty(t, bits), plain.Map{Name: "history"}
		for step := range 25 {
			var l []api.Update
			for i, k := range keys {
				if (i*7+step*5)%11 < 3 {
					l = append(l, api.Update{Key: k[:], Value: []byte{byte(i * step % 3)}, Delete: (i+step)%4 == 0})
				}
			}
			if err := x.Apply(l); err != nil {
				t.Fatal(err)
			}
			m = after(m, l)
			checkMap(t, fmt.Sprint("step ", step), x, m)
			again := append(l, l[step%len(l)])
			checkRefused(t, fmt.Sprint("step ", step), x, m, again, len(l), api.ErrDuplicate)
		}
	}
}
