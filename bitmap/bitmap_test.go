package bitmap

import (
	"math"
	"slices"
	"strconv"
	"testing"

	"sparsetree/api"
	"sparsetree/internal/plain"
)

// reversed returns a list from its end to its beginning.
func reversed(l []int) []int {
	l = slices.Clone(l)
	slices.Reverse(l)
	return l
}

// mixed returns the numbers from 0 to 255 in an order in which neighbours are far from each other.
func mixed() []int {
	l := make([]int, 256)
	for i := range l {
		l[i] = (i*77 + 5) % 256
	}
	return l
}

// twice returns a list in which each number is twice in a row.
func twice(l []int) []int {
	var pairs []int
	for _, i := range l {
		pairs = append(pairs, i, i)
	}
	return pairs
}

// outside returns numbers that are no depths: next to the range, and far from it.
func outside() []int {
	return slices.DeleteFunc(plain.Numbers(), func(i int) bool { return i >= 0 && i < 256 })
}

// setOf returns the set of the numbers of a list: the first bit of a byte is the highest one.
func setOf(l []int) Bitmap {
	var b Bitmap
	for i := range 256 {
		if slices.Contains(l, i) {
			b[i/8] |= 128 >> (i % 8)
		}
	}
	return b
}

// members returns the depths of a set in ascending order.
func members(b Bitmap) []int {
	var l []int
	for i, digit := range plain.Text(api.Key(b)) {
		if digit == '1' {
			l = append(l, i)
		}
	}
	return l
}

// full is the set of all depths.
func full() Bitmap { return Bitmap(plain.Filled(255)) }

// sets are the empty set and the full one, sets of one depth and of all others, of the first and of the last depths, and of bytes that are chosen freely.
func sets() []Bitmap {
	var l []Bitmap
	for _, k := range slices.Concat(plain.Neighbours(api.Key{}), plain.Neighbours(plain.Filled(255)), plain.Keys(), plain.Scattered(14, 100)) {
		l = append(l, Bitmap(k))
	}
	for n := range 256 {
		l = append(l, setOf(plain.From(0, n)), setOf(plain.From(n, 255)))
	}
	for x := range 256 {
		l = append(l, Bitmap(plain.Filled(byte(x))))
	}
	return l
}

// lists are lists of numbers by their names.
func lists() map[string][]int {
	all := plain.From(0, 255)
	l := map[string][]int{
		"nil": nil, "empty": {}, "ascending": all, "descending": reversed(all), "mixed": mixed(),
		"the edges": {0, 7, 8, 254, 255}, "the edges of all bytes": {8, 15, 16, 23, 247, 248},
		"next to the range": {-1, 256}, "outside": outside(), "everything": plain.Numbers(),
		"outside before": slices.Concat(outside(), []int{3, 200}), "outside behind": slices.Concat([]int{3, 200}, outside()),
		"outside between":        slices.Concat([]int{3}, outside(), []int{200}, reversed(outside()), []int{0}),
		"least and greatest int": {math.MinInt, math.MaxInt}, "in range between them": {math.MinInt, 255, math.MaxInt, 0},
		"twice in a row": {9, 9}, "three times in a row": {9, 9, 9}, "twice apart": {9, 0, 9}, "three times apart": {9, 255, 9, 0, 9},
		"many times": slices.Repeat([]int{254}, 1001), "all twice in a row": twice(mixed()), "all twice apart": slices.Concat(all, mixed()),
		"outside several times": {256, 256, -1, 256, -1, -1}, "often": slices.Repeat(slices.Concat(mixed()[:100], outside()), 50),
	}
	for _, i := range plain.Numbers() {
		l[strconv.Itoa(i)] = []int{i}
		l[strconv.Itoa(i)+" twice"] = []int{i, i}
		l[strconv.Itoa(i)+" among others"] = []int{128, i, 0, i, 255}
	}
	return l
}

// P14.1
func TestOfIsTheSetOfTheDepthsInTheList(t *testing.T) {
	for name, l := range lists() {
		if got := Of(l...); got != setOf(l) {
			t.Errorf("%s: Of = %x, want %x", name, got, setOf(l))
		}
	}
}

// P14.1
func TestOfIsEmptyWithoutDepths(t *testing.T) {
	for name, got := range map[string]Bitmap{
		"no numbers": Of(), "nil": Of([]int(nil)...), "empty": Of([]int{}...), "outside": Of(outside()...), "next to the range": Of(-1, 256),
	} {
		if got != (Bitmap{}) {
			t.Errorf("%s: Of = %x", name, got)
		}
	}
}

// P14.1: the first bit of a byte is the highest one, as in layer 1.
func TestOfHasItsBitsWhereLayer1HasThem(t *testing.T) {
	for i, c := range []struct{ got, want Bitmap }{
		{Of(0), Bitmap{128}}, {Of(1), Bitmap{64}}, {Of(7), Bitmap{1}}, {Of(8), Bitmap{0, 128}}, {Of(15), Bitmap{0, 1}},
		{Of(247), Bitmap{30: 1}}, {Of(248), Bitmap{31: 128}}, {Of(254), Bitmap{31: 2}}, {Of(255), Bitmap{31: 1}},
		{Of(0, 7, 8, 254, 255), Bitmap{0: 129, 1: 128, 31: 3}}, {Of(plain.From(0, 255)...), full()},
	} {
		if c.got != c.want {
			t.Errorf("%d: Of = %x, want %x", i, c.got, c.want)
		}
	}
}

// P14.1 and rule 4 of the document: only the elements of the list are read, and none is written.
func TestOfLeavesItsListAsItIs(t *testing.T) {
	for name, l := range lists() {
		whole := slices.Concat(l, []int{77, 300, 78})
		before := slices.Clone(whole)
		if got := Of(whole[:len(l)]...); got != setOf(l) {
			t.Errorf("%s: Of = %x, want %x", name, got, setOf(l))
		}
		if !slices.Equal(whole, before) {
			t.Errorf("%s: the list is changed", name)
		}
	}
}

// checkNumber checks Has, With and Without of a set with some depths, for a number.
func checkNumber(t *testing.T, b Bitmap, depths []int, i int) {
	t.Helper()
	before := b
	has := slices.Contains(depths, i)
	others := slices.DeleteFunc(slices.Clone(depths), func(x int) bool { return x == i })
	if got := b.Has(i); got != has {
		t.Fatalf("%x: Has(%d) = %v", before, i, got)
	}
	if got, want := b.With(i), setOf(append(others, i)); got != want {
		t.Fatalf("%x: With(%d) = %x, want %x", before, i, got, want)
	}
	if got, want := b.Without(i), setOf(others); got != want {
		t.Fatalf("%x: Without(%d) = %x, want %x", before, i, got, want)
	}
	if b != before {
		t.Fatalf("%x: With or Without of %d changed the set to %x", before, i, b)
	}
}

// P14.2
func TestHasWithAndWithoutOfEveryNumber(t *testing.T) {
	for _, b := range []Bitmap{{}, full(), setOf([]int{0}), setOf([]int{7, 8}), setOf([]int{254}), setOf([]int{255}),
		setOf(plain.From(0, 127)), setOf(plain.From(128, 255)), Bitmap(plain.Filled(0xaa)), Bitmap(plain.Scattered(2, 1)[0])} {
		for _, i := range plain.Numbers() {
			checkNumber(t, b, members(b), i)
		}
	}
}

// P14.2
func TestHasWithAndWithoutOfEverySet(t *testing.T) {
	for _, b := range sets() {
		depths := members(b)
		for _, i := range []int{math.MinInt, -256, -1, 0, 1, 7, 8, 100, 127, 128, 200, 247, 248, 254, 255, 256, 257, 512, math.MaxInt} {
			checkNumber(t, b, depths, i)
		}
	}
}

// P14.2: no other depth is changed, whether i was in the set or not.
func TestWithAndWithoutChangeNoOtherDepth(t *testing.T) {
	for _, k := range plain.Scattered(3, 20) {
		b := Bitmap(k)
		for i := range 256 {
			with, without := b.With(i), b.Without(i)
			if !with.Has(i) || without.Has(i) {
				t.Fatalf("%x: With(%d) = %x, Without = %x", b, i, with, without)
			}
			for j := range 256 {
				if j != i && (with.Has(j) != b.Has(j) || without.Has(j) != b.Has(j)) {
					t.Fatalf("%x: With(%d) = %x or Without = %x has another depth %d", b, i, with, without, j)
				}
			}
		}
	}
}

// P14.2: a set that already is what With or Without asks for stays as it is.
func TestWithAndWithoutTwiceAreAsOnce(t *testing.T) {
	for _, b := range sets() {
		for _, i := range []int{-1, 0, 9, 128, 255, 256} {
			with, without := b.With(i), b.Without(i)
			if with.With(i) != with || without.Without(i) != without || with.Without(i) != without || without.With(i) != with {
				t.Fatalf("%x: With(%d) = %x, Without = %x", b, i, with, without)
			}
		}
	}
}

// P14.2
func TestWithAndWithoutOfNumbersOutsideReturnTheSet(t *testing.T) {
	for _, b := range sets() {
		for _, i := range outside() {
			if b.Has(i) || b.With(i) != b || b.Without(i) != b {
				t.Fatalf("%x: Has(%d) = %v, With = %x, Without = %x", b, i, b.Has(i), b.With(i), b.Without(i))
			}
		}
	}
}

// P14.2: from the empty set to the full one and back, in several orders.
func TestWithAndWithoutReachEverySet(t *testing.T) {
	for _, order := range [][]int{plain.From(0, 255), reversed(plain.From(0, 255)), mixed()} {
		var b Bitmap
		for n, i := range order {
			b = b.With(i)
			if b != setOf(order[:n+1]) {
				t.Fatalf("with the first %d of %v: %x", n+1, order, b)
			}
		}
		for n, i := range order {
			b = b.Without(i)
			if b != setOf(order[n+1:]) {
				t.Fatalf("without the first %d of %v: %x", n+1, order, b)
			}
		}
	}
}

// checkDepths checks Len, List and Last of a set with some depths.
func checkDepths(t *testing.T, b Bitmap, depths []int) {
	t.Helper()
	before, last := b, -1
	if len(depths) > 0 {
		last = slices.Max(depths)
	}
	if got := b.Len(); got != len(depths) {
		t.Errorf("%x: Len = %d, want %d", before, got, len(depths))
	}
	if got := b.List(); !slices.Equal(got, depths) {
		t.Errorf("%x: List = %v, want %v", before, got, depths)
	}
	if got := b.Last(); got != last {
		t.Errorf("%x: Last = %d, want %d", before, got, last)
	}
	if b != before {
		t.Errorf("%x: the set is changed to %x", before, b)
	}
}

// P14.3
func TestLenListAndLastOfEverySet(t *testing.T) {
	for _, b := range sets() {
		checkDepths(t, b, members(b))
	}
}

// P14.3
func TestLenListAndLastAtTheirLimits(t *testing.T) {
	checkDepths(t, Bitmap{}, nil)
	checkDepths(t, full(), plain.From(0, 255))
	for i := range 256 {
		var b Bitmap
		b[i/8] = 128 >> (i % 8)
		checkDepths(t, b, []int{i})
	}
	checkDepths(t, Bitmap{0: 128, 31: 1}, []int{0, 255})
	checkDepths(t, Bitmap{0: 1, 1: 128}, []int{7, 8})
	checkDepths(t, Bitmap{0: 1}, []int{7})
	checkDepths(t, Bitmap{31: 2}, []int{254})
}

// P14.3: the order of a list does not matter to its set.
func TestListIsInAscendingOrder(t *testing.T) {
	for name, l := range lists() {
		got := Of(l...).List()
		for n := 1; n < len(got); n++ {
			if got[n-1] >= got[n] {
				t.Errorf("%s: List = %v", name, got)
			}
		}
		if !slices.Equal(got, members(setOf(l))) {
			t.Errorf("%s: List = %v", name, got)
		}
	}
}

// P14.3 and rule 4 of the document: a set and the lists of its depths share no memory.
func TestAChangedListChangesNoSet(t *testing.T) {
	for _, b := range sets() {
		before, depths := b, members(b)
		l := b.List()
		other := b.List()
		for i := range l {
			l[i] = -7
		}
		_ = append(l, 300)
		if b != before || !slices.Equal(other, depths) {
			t.Fatalf("%x: after its list was changed: %x, %v", before, b, other)
		}
		checkDepths(t, b, depths)
	}
}

// P14.4
func TestOfTheListIsTheSet(t *testing.T) {
	for _, k := range plain.Scattered(4, 2000) {
		if b := Bitmap(k); Of(b.List()...) != b {
			t.Fatalf("%x: Of(%v) = %x", b, b.List(), Of(b.List()...))
		}
	}
	for _, b := range sets() {
		if got := Of(b.List()...); got != b {
			t.Fatalf("%x: Of(%v) = %x", b, b.List(), got)
		}
		if got := Of(reversed(b.List())...); got != b {
			t.Fatalf("%x: Of the List from its end = %x", b, got)
		}
	}
}

// P14.4: it does not matter how a set was made; its depths alone tell its 32 bytes.
func TestSetsWithTheSameDepthsAreEqualArrays(t *testing.T) {
	for _, b := range sets() {
		depths := members(b)
		var added Bitmap
		removed := full()
		for _, i := range mixed() {
			if slices.Contains(depths, i) {
				added = added.With(i)
			} else {
				removed = removed.Without(i)
			}
		}
		made := map[Bitmap]bool{added: true, removed: true, Of(depths...): true, Of(slices.Concat(depths, outside(), depths)...): true}
		if len(made) != 1 || !made[b] {
			t.Fatalf("%x: the same depths make %v", b, made)
		}
	}
}

func TestExampleOfTheChapter(t *testing.T) {
	b := Of(0, 9, 9, 300)
	if b != (Bitmap{128, 64}) {
		t.Errorf("bytes %x", b)
	}
	checkDepths(t, b, []int{0, 9})
}
