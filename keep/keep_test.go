package keep

import (
	"math"
	"slices"
	"testing"

	"armillary/api"
)

func item(key, version, data int) api.Item {
	return api.Item{Key: key, Version: version, Data: data}
}

// mixed: three keys in no order, of key 5 the versions 1 to 3 and of 2 and 5 two of one version.
func mixed() []api.Item {
	return []api.Item{item(5, 3, 1), item(2, 0, 2), item(5, 1, 3), item(2, 0, 4), item(5, 3, 5), item(9, 7, 6), item(5, 2, 7)}
}

// steps: key 4 at the versions 10, 20, 30, key 6 at 20 alone, key 8 at 30 and 40.
func steps() []api.Item {
	return []api.Item{item(8, 40, 1), item(4, 20, 2), item(6, 20, 3), item(4, 10, 4), item(8, 30, 5), item(4, 30, 6)}
}

// noNumbers: what is no key and no version, and the borders of what is.
func noNumbers() []int {
	return []int{math.MinInt, math.MinInt + 1, -1 << 62, -1 << 32, -64, -2, -1, 0, 1, 63, 64, 1 << 20, 1<<20 + 1, 1 << 32, 1 << 62, math.MaxInt - 1, math.MaxInt}
}

// drawer: numbers by rule, from 0 on, below what is asked.
func drawer(seed int) func(below int) int {
	n := seed
	return func(below int) int {
		n = (n*1103515245 + 12345) % (1 << 31)
		return n >> 8 % below
	}
}

// drawn: as many items, each of another Data, of so many keys and versions.
func drawn(draw func(int) int, n, keys, versions int) []api.Item {
	l := make([]api.Item, n)
	for i := range l {
		l[i] = item(draw(keys), draw(versions), i)
	}
	return l
}

// guarded: the list with spare room behind it, and what tells whether anything of either was changed.
func guarded[E comparable](t *testing.T, l []E, spare E) ([]E, func()) {
	whole := slices.Concat(l, []E{spare, spare, spare})
	was := slices.Clone(whole)
	return whole[:len(l)], func() {
		t.Helper()
		if !slices.Equal(whole, was) {
			t.Errorf("a list that was handed in is changed: %v, was %v", whole, was)
		}
	}
}

func spare() api.Item { return item(77, 77, 77) }

// twice: what the call answers, the same when it is asked again, and changing nothing of l.
func twice[E comparable](t *testing.T, what string, l []api.Item, call func(l []api.Item) []E) []E {
	t.Helper()
	g, unchanged := guarded(t, l, spare())
	got := call(g)
	if again := call(g); !slices.Equal(got, again) {
		t.Errorf("%s of %v: %v, then %v", what, l, got, again)
	}
	unchanged()
	return got
}

func sorts(t *testing.T, l []api.Item, want ...api.Item) {
	t.Helper()
	if got := twice(t, "Sort", l, Sort); !slices.Equal(got, want) {
		t.Errorf("P8.1: Sort of %v: %v, not %v", l, got, want)
	}
}

func latest(t *testing.T, l []api.Item, key, version int, want api.Item) {
	t.Helper()
	if got, found := asksLatest(t, l, key, version); got != want || !found {
		t.Errorf("P8.1: Latest of %v, %d, %d: %v, %v, not %v", l, key, version, got, found, want)
	}
}

func noLatest(t *testing.T, l []api.Item, key, version int) {
	t.Helper()
	if got, found := asksLatest(t, l, key, version); got != (api.Item{}) || found {
		t.Errorf("P8.1: Latest of %v, %d, %d: %v, %v, not none", l, key, version, got, found)
	}
}

func asksLatest(t *testing.T, l []api.Item, key, version int) (api.Item, bool) {
	t.Helper()
	g, unchanged := guarded(t, l, spare())
	got, found := Latest(g, key, version)
	if again, same := Latest(g, key, version); again != got || same != found {
		t.Errorf("Latest of %v, %d, %d: %v, %v, then %v, %v", l, key, version, got, found, again, same)
	}
	unchanged()
	return got, found
}

func keeps(t *testing.T, l []api.Item, versions []int, want ...api.Item) {
	t.Helper()
	if got := asksKeep(t, l, versions); !slices.Equal(got, want) {
		t.Errorf("P8.2: Keep of %v, %v: %v, not %v", l, versions, got, want)
	}
}

func asksKeep(t *testing.T, l []api.Item, versions []int) []api.Item {
	t.Helper()
	g, unchanged := guarded(t, versions, 25)
	got := twice(t, "Keep", l, func(l []api.Item) []api.Item { return Keep(l, g) })
	unchanged()
	return got
}

func keys(t *testing.T, l []api.Item, want ...int) {
	t.Helper()
	if got := twice(t, "Keys", l, Keys); !slices.Equal(got, want) {
		t.Errorf("P8.2: Keys of %v: %v, not %v", l, got, want)
	}
}

// P8.1: Sort

func TestSortOfNoneAndOfOne(t *testing.T) {
	sorts(t, nil)
	sorts(t, []api.Item{})
	sorts(t, []api.Item{item(5, 3, 1)}, item(5, 3, 1))
	sorts(t, []api.Item{{}}, api.Item{})
}

func TestSortByKeyThenByVersion(t *testing.T) {
	sorts(t, []api.Item{item(2, 1, 1), item(1, 2, 2)}, item(1, 2, 2), item(2, 1, 1))
	sorts(t, []api.Item{item(1, 2, 1), item(1, 1, 2)}, item(1, 1, 2), item(1, 2, 1))
	sorts(t, mixed(), item(2, 0, 2), item(2, 0, 4), item(5, 1, 3), item(5, 2, 7), item(5, 3, 1), item(5, 3, 5), item(9, 7, 6))
	sorts(t, steps(), item(4, 10, 4), item(4, 20, 2), item(4, 30, 6), item(6, 20, 3), item(8, 30, 5), item(8, 40, 1))
}

// TestSortOfItemsInOrder: those that stand so already, and those that stand in the contrary order.
func TestSortOfItemsInOrder(t *testing.T) {
	for _, n := range []int{2, 3, 12, 13, 100, 1000} {
		var rising []api.Item
		for i := range n {
			rising = append(rising, item(i/3, i%3, n-i))
		}
		sorts(t, rising, rising...)
		falling := slices.Clone(rising)
		slices.Reverse(falling)
		sorts(t, falling, rising...)
	}
}

// TestSortLeavesThoseOfOneKeyAndVersion: as they stood, whatever their Data, and however many.
func TestSortLeavesThoseOfOneKeyAndVersion(t *testing.T) {
	for _, n := range []int{2, 3, 13, 50, 500} {
		for _, step := range []int{1, -1} {
			var same, two, want []api.Item
			for i := range n {
				same = append(same, item(5, 3, step*i))
				two = append(two, item(5, 3-i%2, step*i))
			}
			sorts(t, same, same...)
			for parity := range 2 {
				for i := 1 - parity; i < n; i += 2 {
					want = append(want, two[i])
				}
			}
			sorts(t, two, want...)
		}
	}
	sorts(t, []api.Item{item(1, 1, 9), item(0, 0, 0), item(1, 1, 9), item(1, 1, 2)}, item(0, 0, 0), item(1, 1, 9), item(1, 1, 9), item(1, 1, 2))
}

// TestSortOfMany: each item stands in its place, told by how many stand ahead of it.
func TestSortOfMany(t *testing.T) {
	for seed := range 40 {
		draw := drawer(seed)
		l := drawn(draw, seed*8, 1+seed/3, 1+seed%7)
		want := make([]api.Item, len(l))
		for i, x := range l {
			at := 0
			for j, y := range l {
				if y.Key < x.Key || y.Key == x.Key && (y.Version < x.Version || y.Version == x.Version && j < i) {
					at++
				}
			}
			want[at] = x
		}
		sorts(t, l, want...)
	}
}

func TestSortOfWhateverNumbers(t *testing.T) {
	var want []api.Item
	for _, key := range noNumbers() {
		for _, version := range noNumbers() {
			want = append(want, item(key, version, -key))
		}
	}
	var l []api.Item
	for i := range want {
		l = append(l, want[i*100%len(want)])
	}
	sorts(t, l, want...)
}

// P8.1: Latest

func TestLatestOfNoneAndOfOne(t *testing.T) {
	for _, version := range []int{-1, 0, 3, math.MaxInt} {
		noLatest(t, nil, 0, version)
		noLatest(t, []api.Item{}, 5, version)
	}
	one := []api.Item{item(5, 3, 1)}
	noLatest(t, one, 5, 2)
	latest(t, one, 5, 3, item(5, 3, 1))
	latest(t, one, 5, 4, item(5, 3, 1))
	noLatest(t, one, 4, 3)
	noLatest(t, one, 6, 3)
}

// TestLatestAtEachVersion: below all of a key's, at each one, between them, above all.
func TestLatestAtEachVersion(t *testing.T) {
	l := steps()
	for version := -1; version <= 50; version++ {
		for key, want := range map[int][]api.Item{
			4: {item(4, 10, 4), item(4, 20, 2), item(4, 30, 6), item(4, 30, 6), item(4, 30, 6)},
			6: {{}, item(6, 20, 3), item(6, 20, 3), item(6, 20, 3), item(6, 20, 3)},
			8: {{}, {}, item(8, 30, 5), item(8, 40, 1), item(8, 40, 1)},
		} {
			if version < 10 || want[version/10-1] == (api.Item{}) {
				noLatest(t, l, key, version)
			} else {
				latest(t, l, key, version, want[version/10-1])
			}
		}
	}
}

func TestLatestOfAKeyThatIsNotThere(t *testing.T) {
	for _, key := range append(noNumbers(), 3, 5, 7, 9) {
		for _, version := range noNumbers() {
			noLatest(t, steps(), key, version)
		}
	}
}

// TestLatestIsTheLastOneAsTheyStand: of one key and version, wherever the others stand.
func TestLatestIsTheLastOneAsTheyStand(t *testing.T) {
	l := []api.Item{item(5, 3, 9), item(5, 3, 4), item(5, 2, 8), item(6, 3, 7), item(5, 3, 1), item(5, 2, 2), item(5, 1, 3), item(6, 3, 5)}
	latest(t, l, 5, 3, item(5, 3, 1))
	latest(t, l, 5, 9, item(5, 3, 1))
	latest(t, l, 5, 2, item(5, 2, 2))
	latest(t, l, 5, 1, item(5, 1, 3))
	latest(t, l, 6, 3, item(6, 3, 5))
	noLatest(t, l, 5, 0)
	latest(t, l[:4], 5, 3, item(5, 3, 4))
	latest(t, l[:1], 5, 3, item(5, 3, 9))
}

// TestLatestOfTheGreatestWhereverItStands: ahead of the others, between them, behind them.
func TestLatestOfTheGreatestWhereverItStands(t *testing.T) {
	for at := range 3 {
		l := slices.Insert([]api.Item{item(5, 1, 1), item(5, 4, 2)}, at, item(5, 7, 3))
		latest(t, l, 5, 7, item(5, 7, 3))
		latest(t, l, 5, 6, item(5, 4, 2))
		latest(t, l, 5, 3, item(5, 1, 1))
	}
}

// TestLatestOfWhateverNumbers: keys that are none; versions below 0 and as great as an int may be.
func TestLatestOfWhateverNumbers(t *testing.T) {
	numbers := noNumbers()
	for _, key := range numbers {
		var l []api.Item
		for i := range numbers {
			l = append(l, item(key, numbers[i*5%len(numbers)], i))
		}
		for i, version := range numbers {
			latest(t, l, key, version, item(key, version, i*7%len(numbers))) // 7 times 5 is 1 more than twice 17
		}
		noLatest(t, l[1:], key, math.MinInt)
		latest(t, []api.Item{{Key: key}}, key, 0, api.Item{Key: key})
		noLatest(t, []api.Item{{Key: key}}, key, -1)
	}
}

// P8.2: Keep

func TestKeepOfNoneAndOfOne(t *testing.T) {
	for _, versions := range [][]int{nil, {}, {0}, {3}, {5, -1, 3, 5}, noNumbers()} {
		keeps(t, nil, versions)
		keeps(t, []api.Item{}, versions)
		keeps(t, []api.Item{item(5, 3, 1)}, versions, item(5, 3, 1))
		keeps(t, []api.Item{{}}, versions, api.Item{})
	}
}

// TestKeepWithoutVersions: the greatest of each key, of several the last one.
func TestKeepWithoutVersions(t *testing.T) {
	for _, versions := range [][]int{nil, {}} {
		keeps(t, mixed(), versions, item(2, 0, 4), item(5, 3, 5), item(9, 7, 6))
		keeps(t, steps(), versions, item(4, 30, 6), item(6, 20, 3), item(8, 40, 1))
	}
}

// TestKeepAtOneVersion: below all of a key's, at one, between two, above all.
func TestKeepAtOneVersion(t *testing.T) {
	greatest := []api.Item{item(4, 30, 6), item(6, 20, 3), item(8, 40, 1)}
	at := func(version int, also ...api.Item) {
		t.Helper()
		keeps(t, steps(), []int{version}, Sort(slices.Concat(greatest, also))...)
	}
	at(9)
	at(10, item(4, 10, 4))
	at(15, item(4, 10, 4))
	at(19, item(4, 10, 4))
	at(20, item(4, 20, 2))
	at(29, item(4, 20, 2))
	at(30, item(8, 30, 5))
	at(39, item(8, 30, 5))
	at(40)
	at(41)
	for _, version := range noNumbers() {
		if version < 10 || version > 40 {
			at(version)
		}
	}
}

// TestKeepAtManyVersions: in whatever order, the same one twice, and each item once.
func TestKeepAtManyVersions(t *testing.T) {
	low, mid, last := item(4, 10, 4), item(4, 20, 2), item(4, 30, 6)
	six, eight, great := item(6, 20, 3), item(8, 30, 5), item(8, 40, 1)
	for _, versions := range [][]int{{10, 20}, {20, 10}, {10, 10, 20, 10}, {19, 29}, {29, 11, 10, 25}, {99, 15, 0, 21, -7}} {
		keeps(t, steps(), versions, low, mid, last, six, great)
	}
	for _, versions := range [][]int{{10, 30}, {30, 10}, {12, 35, 12, 39, 35}, {40, 30, 19}, {math.MaxInt, 38, 10, math.MinInt}} {
		keeps(t, steps(), versions, low, last, six, eight, great)
	}
	for _, versions := range [][]int{{10, 20, 30, 40}, {40, 30, 20, 10}, {25, 33, 17}, {33, 33, 17, 25, 17, 0}} {
		keeps(t, steps(), versions, low, mid, last, six, eight, great)
	}
	for _, versions := range [][]int{{20, 20}, {20, 29, 21}, {25, 9, 8, 40}} {
		keeps(t, steps(), versions, mid, last, six, great)
	}
}

// TestKeepAnItemThatSeveralVersionsAskFor: once, the greatest one, too.
func TestKeepAnItemThatSeveralVersionsAskFor(t *testing.T) {
	l := []api.Item{item(5, 9, 1), item(5, 2, 2)}
	keeps(t, l, []int{2, 3, 4, 5, 6, 7, 8}, item(5, 2, 2), item(5, 9, 1))
	keeps(t, l, []int{9, 10, 9, 11}, item(5, 9, 1))
	keeps(t, l[:1], []int{9, 10, 11, 2}, item(5, 9, 1))
}

// TestKeepOfSeveralOfOneKeyAndVersion: the last one as they stand, of older versions, too.
func TestKeepOfSeveralOfOneKeyAndVersion(t *testing.T) {
	l := []api.Item{item(5, 2, 9), item(5, 7, 3), item(5, 2, 6), item(3, 2, 1), item(5, 7, 1), item(5, 2, 4), item(3, 2, 8)}
	keeps(t, l, nil, item(3, 2, 8), item(5, 7, 1))
	keeps(t, l, []int{1}, item(3, 2, 8), item(5, 7, 1))
	keeps(t, l, []int{2}, item(3, 2, 8), item(5, 2, 4), item(5, 7, 1))
	keeps(t, l, []int{6, 2, 7}, item(3, 2, 8), item(5, 2, 4), item(5, 7, 1))
	keeps(t, l, []int{7}, item(3, 2, 8), item(5, 7, 1))
	same := []api.Item{item(1, 1, 5), item(1, 1, 5)}
	keeps(t, same, []int{0, 1, 2}, item(1, 1, 5))
}

// TestKeepWhereSomeKeysAreYounger: keys without a version that isn't above the one asked keep their greatest alone.
func TestKeepWhereSomeKeysAreYounger(t *testing.T) {
	l := []api.Item{item(1, 5, 1), item(1, 9, 2), item(2, 6, 3), item(2, 9, 4), item(3, 4, 5), item(3, 8, 6), item(4, 6, 7)}
	keeps(t, l, []int{5}, item(1, 5, 1), item(1, 9, 2), item(2, 9, 4), item(3, 4, 5), item(3, 8, 6), item(4, 6, 7))
	keeps(t, l, []int{3}, item(1, 9, 2), item(2, 9, 4), item(3, 8, 6), item(4, 6, 7))
	keeps(t, l, []int{4, 6}, item(1, 5, 1), item(1, 9, 2), item(2, 6, 3), item(2, 9, 4), item(3, 4, 5), item(3, 8, 6), item(4, 6, 7))
}

// TestKeepOfWhateverNumbers: each item is the Latest of its own version, whatever numbers these are.
func TestKeepOfWhateverNumbers(t *testing.T) {
	numbers := noNumbers()
	var l, greatest []api.Item
	for _, key := range numbers {
		for _, version := range numbers {
			l = append(l, item(key, version, version))
		}
		greatest = append(greatest, item(key, math.MaxInt, math.MaxInt))
	}
	keeps(t, l, nil, greatest...)
	keeps(t, l, []int{math.MaxInt}, greatest...)
	keeps(t, l, numbers, l...)
	for i, version := range numbers[:len(numbers)-1] {
		var want []api.Item
		for _, key := range numbers {
			want = append(want, item(key, version, version), item(key, math.MaxInt, math.MaxInt))
		}
		keeps(t, l, []int{version}, want...)
		keeps(t, l, []int{numbers[i+1] - 1, version}, want...)
	}
	keeps(t, []api.Item{item(-1, -5, 1), item(-1, -9, 2)}, []int{-6, -10}, item(-1, -9, 2), item(-1, -5, 1))
	keeps(t, []api.Item{item(-1, -5, 1), item(-1, -9, 2)}, []int{0}, item(-1, -5, 1))
}

// kept: key by key, version by version, by looking for each of them.
func kept(l []api.Item, versions []int) []api.Item {
	var want []api.Item
	for _, key := range Keys(l) {
		for _, version := range append(slices.Clone(versions), math.MaxInt) {
			if x, found := Latest(l, key, version); found && !slices.Contains(want, x) {
				want = append(want, x)
			}
		}
	}
	return Sort(want)
}

func TestKeepOfMany(t *testing.T) {
	for seed := range 300 {
		draw := drawer(seed)
		l := drawn(draw, draw(60), 1+draw(12), 1+draw(20))
		var versions []int
		for range draw(9) {
			versions = append(versions, draw(22)-1)
		}
		keeps(t, l, versions, kept(l, versions)...)
	}
}

// TestKeepOfAsManyVersionsAsItems: it ends though keys, items and versions are many.
func TestKeepOfAsManyVersionsAsItems(t *testing.T) {
	const n = 100000
	l, even, want := make([]api.Item, 2*n), make([]int, n), make([]api.Item, 0, 2*n)
	for i := range n {
		key := n - 1 - i
		l[i], l[n+i] = item(key, 4*key, key), item(key, 4*key+2, -key)
		even[i] = 8 * key
	}
	for key := range n {
		if key%2 == 0 {
			want = append(want, item(key, 4*key, key))
		}
		want = append(want, item(key, 4*key+2, -key))
	}
	if got := Keep(l, even); !slices.Equal(got, want) {
		t.Errorf("P8.2: Keep of many: %d items, not %d", len(got), len(want))
	}
}

// P8.2: Keys

func TestKeys(t *testing.T) {
	keys(t, nil)
	keys(t, []api.Item{})
	keys(t, []api.Item{{}}, 0)
	keys(t, []api.Item{item(5, 3, 1)}, 5)
	keys(t, []api.Item{item(5, 3, 1), item(5, 4, 2), item(5, 3, 1)}, 5)
	keys(t, mixed(), 2, 5, 9)
	keys(t, steps(), 4, 6, 8)
}

func TestKeysOfManyItems(t *testing.T) {
	for _, step := range []int{1, 5, 27, 37, 63} { // odd: all of the 64 keys come
		var l []api.Item
		var want []int
		for i := range 64 {
			l = append(l, item(i*step%64, i, i), item(i*step%64, 64-i, i))
			want = append(want, i)
		}
		keys(t, l, want...)
	}
}

func TestKeysOfWhateverNumbers(t *testing.T) {
	numbers := noNumbers()
	var l []api.Item
	for i := range 3 * len(numbers) {
		l = append(l, item(numbers[i*5%len(numbers)], i, i))
	}
	keys(t, l, numbers...)
}

// P8.3

// TestWhatAScanMayAskForIsThere: at each version under way, and at the last one,
// what is kept tells what all tell; nothing else is kept.
func TestWhatAScanMayAskForIsThere(t *testing.T) {
	for seed := range 100 {
		draw := drawer(seed)
		l := drawn(draw, 40, 6, 30)
		versions := []int{draw(30), draw(30), draw(30)}[:draw(4)]
		got := Keep(l, versions)
		asked := map[api.Item]struct{}{}
		for key := range 6 {
			for _, version := range append(slices.Clone(versions), math.MaxInt) {
				want, found := Latest(l, key, version)
				if x, has := Latest(got, key, version); x != want || has != found {
					t.Errorf("P8.3: at %d key %d: %v, %v, not %v, %v", version, key, x, has, want, found)
				}
				if found {
					asked[want] = struct{}{}
				}
			}
		}
		if len(got) != len(asked) {
			t.Errorf("P8.3: %v of %v with %v: %d items, not %d", got, l, versions, len(got), len(asked))
		}
		keeps(t, got, versions, got...) // what is needed stays so
	}
}

// TestOldVersionsGo: as the scans go, one behind the other.
func TestOldVersionsGo(t *testing.T) {
	l := []api.Item{item(7, 1, 1), item(7, 2, 2), item(7, 3, 3), item(7, 4, 4)}
	versions := []int{1, 2, 3}
	for n := len(versions); n >= 0; n-- {
		keeps(t, l, versions[:n], append(slices.Clone(l[:n]), l[3])...)
	}
	gone := Keep(l, []int{2})
	keeps(t, gone, []int{2, 1}, l[1], l[3]) // what has gone doesn't come back
	noLatest(t, gone, 7, 1)
}

// What holds everywhere: answers are new memory, and hang on nothing but the arguments.

func TestAnswersShareNoMemory(t *testing.T) {
	versions := []int{10, 30}
	for _, l := range [][]api.Item{steps(), Sort(steps()), Keep(steps(), nil)} { // such as could be handed back, too
		sharesNone(t, "Sort", l, Sort)
		sharesNone(t, "Keep", l, func(l []api.Item) []api.Item { return Keep(l, versions) })
		sharesNone(t, "Keys", l, Keys)
	}
	if !slices.Equal(versions, []int{10, 30}) {
		t.Errorf("Keep: what it answered is memory of its versions: %v", versions)
	}
}

// sharesNone: an answer that is cleared changes no other one and not l, nor does l that is cleared change an answer.
func sharesNone[E comparable](t *testing.T, name string, l []api.Item, call func(l []api.Item) []E) {
	t.Helper()
	in, unchanged := guarded(t, l, spare())
	one, other := call(in), call(in)
	want := slices.Clone(other)
	clear(one[:cap(one)])
	unchanged()
	if again := call(in); !slices.Equal(other, want) || !slices.Equal(again, want) {
		t.Errorf("%s: what it answered is memory of another answer: %v, %v, not %v", name, other, again, want)
	}
	clear(in[:cap(in)])
	if !slices.Equal(other, want) {
		t.Errorf("%s: what it answered is memory of its argument: %v, not %v", name, other, want)
	}
}

// TestAnswersAreNotKept: what one list told, another one doesn't.
func TestAnswersAreNotKept(t *testing.T) {
	keeps(t, mixed(), []int{1}, item(2, 0, 4), item(5, 1, 3), item(5, 3, 5), item(9, 7, 6))
	keeps(t, steps(), nil, item(4, 30, 6), item(6, 20, 3), item(8, 40, 1))
	keeps(t, nil, []int{1})
	keys(t, mixed(), 2, 5, 9)
	keys(t, steps()[:1], 8)
	latest(t, mixed(), 5, 9, item(5, 3, 5))
	noLatest(t, steps(), 5, 9)
}

// TestCallsAtOnce: how goroutines are scheduled is not to be seen.
func TestCallsAtOnce(t *testing.T) {
	l := drawn(drawer(5), 200, 64, 20)
	versions := []int{3, 9, 15}
	want := kept(l, versions)
	done := make(chan []api.Item)
	for range 8 {
		go func() { done <- Keep(l, versions) }()
	}
	for range 8 {
		if got := <-done; !slices.Equal(got, want) {
			t.Errorf("P8.2: %v, not %v", got, want)
		}
	}
}
