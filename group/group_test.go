package group

import (
	"fmt"
	"math"
	"slices"
	"testing"

	"armillary/api"
	"armillary/keep"
	"armillary/place"
	"armillary/view"
	"armillary/word"
)

func item(key, version, data int) api.Item {
	return api.Item{Key: key, Version: version, Data: data}
}

func spare() api.Item { return item(77, 77, 77) }

// counted: as many items of each of these keys, the keys as they stand, versions from 0 on, each of another Data.
func counted(keysAndCounts ...int) []api.Item {
	var l []api.Item
	for i := 0; i < len(keysAndCounts); i += 2 {
		for version := range keysAndCounts[i+1] {
			l = append(l, item(keysAndCounts[i], version, 100+len(l)))
		}
	}
	return l
}

// two threads, chunks of four cells; eight threads, chunks of as many cells as may be.
func two() api.Conf { return api.Conf{Threads: 2, Cap: 4, Words: 1000, Versions: 100} }

func eight() api.Conf {
	return api.Conf{Threads: api.MaxThreads, Cap: api.MaxCap, Words: api.MaxWords, Versions: api.MaxVersions}
}

// noNumbers: what is no key, no version and no place, and the borders of what is.
func noNumbers() []int {
	return []int{math.MinInt, math.MinInt + 1, -1 << 62, -1 << 32, -64, -2, -1, 0, 1, 2, 3, 63, 64, 1 << 20, 1<<24 - 4, 1<<24 - 3, 1 << 30, 1<<30 + 1, 1 << 32, 1 << 62, math.MaxInt - 1, math.MaxInt}
}

// drawer: numbers by rule, from 0 on, below what is asked.
func drawer(seed int) func(below int) int {
	n := seed
	return func(below int) int {
		n = (n*1103515245 + 12345) % (1 << 31)
		return n >> 8 % below
	}
}

// drawn: as many items, each of another Data, of so many keys and versions.
func drawn(draw func(int) int, n, keys, versions int) []api.Item {
	l := make([]api.Item, n)
	for i := range l {
		l[i] = item(draw(keys), draw(versions), i)
	}
	return l
}

// guarded: the list with spare room behind it, and what tells whether anything of either was changed.
func guarded[E comparable](t *testing.T, l []E, spare E) ([]E, func()) {
	whole := slices.Concat(l, []E{spare, spare, spare})
	was := slices.Clone(whole)
	return whole[:len(l)], func() {
		t.Helper()
		if !slices.Equal(whole, was) {
			t.Errorf("a list that was handed in is changed: %v, was %v", whole, was)
		}
	}
}

// guardedGroups: likewise the groups, each with spare room, and spare room behind all of them.
func guardedGroups(t *testing.T, groups [][]api.Item) ([][]api.Item, func()) {
	var whole [][]api.Item
	var unchanged []func()
	for _, group := range slices.Concat(groups, [][]api.Item{{spare()}, {spare()}}) {
		g, still := guarded(t, group, spare())
		whole, unchanged = append(whole, g), append(unchanged, still)
	}
	was := slices.Clone(whole)
	return whole[:len(groups)], func() {
		t.Helper()
		for i, still := range unchanged {
			if len(whole[i]) != len(was[i]) || &whole[i][:1][0] != &was[i][:1][0] {
				t.Errorf("group %d of those that were handed in is another one", i)
			}
			still()
		}
	}
}

func sameGroups(a, b [][]api.Item) bool {
	return slices.EqualFunc(a, b, slices.Equal)
}

func sameChunks(a, b []api.Chunk) bool { return slices.EqualFunc(a, b, view.Same) }

// asksSplit: what it answers, the same when it is asked again, and changing nothing of l.
func asksSplit(t *testing.T, l []api.Item, cells int) [][]api.Item {
	t.Helper()
	g, unchanged := guarded(t, l, spare())
	got := Split(g, cells)
	if again := Split(g, cells); !sameGroups(got, again) {
		t.Errorf("Split of %v, %d: %v, then %v", l, cells, got, again)
	}
	unchanged()
	return got
}

func splits(t *testing.T, l []api.Item, cells int, want ...[]api.Item) {
	t.Helper()
	if got := asksSplit(t, l, cells); !sameGroups(got, want) {
		t.Errorf("P9.1: Split of %v, %d: %v, not %v", l, cells, got, want)
	}
}

// splitsAt: into so many items a group, one behind the other.
func splitsAt(t *testing.T, l []api.Item, cells int, counts ...int) {
	t.Helper()
	splits(t, l, cells, cut(l, counts...)...)
}

func cut(l []api.Item, counts ...int) [][]api.Item {
	var groups [][]api.Item
	for _, n := range counts {
		groups = append(groups, l[:n])
		l = l[n:]
	}
	return groups
}

func mins(t *testing.T, min int, groups [][]api.Item, want ...int) {
	t.Helper()
	g, unchanged := guardedGroups(t, groups)
	got := Mins(min, g)
	if again := Mins(min, g); !slices.Equal(got, again) {
		t.Errorf("Mins of %d, %v: %v, then %v", min, groups, got, again)
	}
	unchanged()
	if !slices.Equal(got, want) {
		t.Errorf("P9.1: Mins of %d, %v: %v, not %v", min, groups, got, want)
	}
}

func asksChunks(t *testing.T, c api.Conf, at, after, min int, groups [][]api.Item) []api.Chunk {
	t.Helper()
	g, unchanged := guardedGroups(t, groups)
	got := Chunks(c, at, after, min, g)
	if again := Chunks(c, at, after, min, g); !sameChunks(got, again) {
		t.Errorf("Chunks of %v, %d, %d, %d, %v: %v, then %v", c, at, after, min, groups, got, again)
	}
	unchanged()
	return got
}

func chunks(t *testing.T, c api.Conf, at, after, min int, groups [][]api.Item, want ...api.Chunk) {
	t.Helper()
	if got := asksChunks(t, c, at, after, min, groups); !sameChunks(got, want) {
		t.Errorf("P9.2: Chunks of %v, %d, %d, %d, %v: %v, not %v", c, at, after, min, groups, got, want)
	}
}

func noChunks(t *testing.T, c api.Conf, groups [][]api.Item) {
	t.Helper()
	if got := asksChunks(t, c, 100, 200, 5, groups); len(got) != 0 {
		t.Errorf("P9.2: Chunks of %v, %v: %v, not none", c, groups, got)
	}
}

// cells: these, and zero ones up to so many.
func cells(n int, l ...api.Cell) []api.Cell {
	return append(l, make([]api.Cell, n-len(l))...)
}

// P9.1: Split

func TestSplitOfNoItems(t *testing.T) {
	for _, n := range noNumbers() {
		splits(t, nil, n, nil)
		splits(t, []api.Item{}, n, []api.Item{})
	}
}

func TestSplitOfOneItem(t *testing.T) {
	for _, n := range noNumbers() {
		for _, key := range noNumbers() {
			splits(t, []api.Item{item(key, key, key)}, n, []api.Item{item(key, key, key)})
		}
	}
}

// TestSplitOfOneKey: a chunk of its own, whether it has half of the cells, one more, all, more than all.
func TestSplitOfOneKey(t *testing.T) {
	for n := 2; n <= api.MaxCap; n++ {
		for _, count := range []int{n / 2, n/2 + 1, n, n + 1, 3 * n, 1000} {
			splitsAt(t, counted(5, count), n, count)
		}
	}
}

// TestSplitFillsHalf: a key goes into the group that is begun as long as both are half of the cells, and no further.
func TestSplitFillsHalf(t *testing.T) {
	for n := 2; n <= api.MaxCap; n++ {
		half := n / 2
		for first := 1; first < half; first++ {
			splitsAt(t, counted(4, first, 7, half-first), n, half)
			splitsAt(t, counted(4, first, 7, half-first+1), n, first, half-first+1)
		}
		splitsAt(t, counted(4, half, 7, 1), n, half, 1)
		splitsAt(t, counted(4, half+1, 7, 1), n, half+1, 1)
		splitsAt(t, counted(4, 1, 7, half), n, 1, half)
		splitsAt(t, counted(4, 1, 7, half+1), n, 1, half+1)
		splitsAt(t, counted(4, half+1, 7, half+1, 9, half+1), n, half+1, half+1, half+1)
	}
}

// TestSplitOfOddCells: the half is rounded down.
func TestSplitOfOddCells(t *testing.T) {
	l := counted(1, 1, 2, 1, 3, 1, 4, 1, 5, 1)
	splitsAt(t, l, 2, 1, 1, 1, 1, 1)
	splitsAt(t, l, 3, 1, 1, 1, 1, 1)
	splitsAt(t, l, 4, 2, 2, 1)
	splitsAt(t, l, 5, 2, 2, 1)
	splitsAt(t, l, 6, 3, 2)
	splitsAt(t, l, 7, 3, 2)
	splitsAt(t, l, 8, 4, 1)
	splitsAt(t, l, 9, 4, 1)
	splitsAt(t, l, 10, 5)
	splitsAt(t, l, 11, 5)
}

// TestSplitHoldsCells: from 2 to MaxCap.
func TestSplitHoldsCells(t *testing.T) {
	var l []api.Item
	for key := range 40 {
		l = append(l, counted(key, 1+key%3)...)
	}
	least, most := Split(l, 2), Split(l, api.MaxCap)
	for _, n := range append(noNumbers(), -3, 0, 1, 2, api.MaxCap, api.MaxCap+1, api.MaxCap+2, 2*api.MaxCap) {
		if n <= 2 {
			splits(t, l, n, least...)
		}
		if n >= api.MaxCap {
			splits(t, l, n, most...)
		}
	}
	if len(least) != 40 || len(most) != 13 {
		t.Errorf("P9.1: %d groups of 2 cells, %d of %d", len(least), len(most), api.MaxCap)
	}
	ones := counted(0, 1, 1, 1, 2, 1, 3, 1, 4, 1, 5, 1, 6, 1, 7, 1, 8, 1)
	splitsAt(t, ones, api.MaxCap, 8, 1)
	splitsAt(t, ones, api.MaxCap+2, 8, 1)
	splitsAt(t, ones, api.MaxCap-1, 7, 2)
}

// TestSplitTakesKeysAsTheyCome: none goes back into a group that would still have room.
func TestSplitTakesKeysAsTheyCome(t *testing.T) {
	splitsAt(t, counted(1, 1, 2, 3, 3, 1, 4, 1), 6, 1, 3, 2)
	splitsAt(t, counted(1, 2, 2, 2, 3, 1, 4, 5, 5, 1, 6, 1, 7, 1), 6, 2, 3, 5, 3)
	splitsAt(t, counted(1, 9, 2, 1, 3, 1, 4, 9, 5, 1), 4, 9, 2, 9, 1)
}

// TestSplitOfKeysThatAreNone: they are taken as the numbers that they are, versions and data likewise.
func TestSplitOfKeysThatAreNone(t *testing.T) {
	var l []api.Item
	for _, key := range noNumbers() {
		for _, version := range noNumbers() {
			l = append(l, item(key, version, version))
		}
	}
	n := len(noNumbers())
	splitsAt(t, l, 8, slices.Repeat([]int{n}, n)...)
	var single []api.Item
	for i, key := range noNumbers() {
		single = append(single, item(key, noNumbers()[n-1-i], key))
	}
	splitsAt(t, single, 14, 7, 7, 7, 1)
}

// TestSplitOfItemsInNoOrder: they are taken as keep's Sort leaves them.
func TestSplitOfItemsInNoOrder(t *testing.T) {
	splits(t, []api.Item{item(5, 1, 1), item(3, 2, 2), item(5, 0, 3), item(3, 2, 4)}, 4,
		[]api.Item{item(3, 2, 2), item(3, 2, 4)}, []api.Item{item(5, 0, 3), item(5, 1, 1)})
	splits(t, []api.Item{item(9, 0, 1), item(8, 0, 2), item(7, 0, 3)}, 5, []api.Item{item(7, 0, 3), item(8, 0, 2)}, []api.Item{item(9, 0, 1)})
}

// P9.1: Mins

func TestMinsOfNoGroups(t *testing.T) {
	for _, n := range noNumbers() {
		mins(t, n, nil)
		mins(t, n, [][]api.Item{})
	}
}

// TestMinsOfTheFirstGroup: min, whatever the group has.
func TestMinsOfTheFirstGroup(t *testing.T) {
	for _, n := range noNumbers() {
		for _, group := range [][]api.Item{nil, {}, counted(4, 1), counted(4, 2, 9, 1), {item(n, 0, 0)}} {
			mins(t, n, [][]api.Item{group}, n)
		}
	}
}

// TestMinsOfFurtherGroups: the first key as it stands, not the least; 0 of an empty one, wherever it stands.
func TestMinsOfFurtherGroups(t *testing.T) {
	mins(t, 2, [][]api.Item{counted(4, 1), counted(7, 3, 8, 2)}, 2, 7)
	mins(t, 9, [][]api.Item{counted(4, 1), counted(7, 1), counted(8, 1), counted(3, 1)}, 9, 7, 8, 3)
	mins(t, 9, [][]api.Item{nil, {item(7, 9, 1), item(5, 2, 3)}}, 9, 7)
	mins(t, 6, [][]api.Item{nil, nil}, 6, 0)
	mins(t, 6, [][]api.Item{nil, {}, counted(5, 1), {}, counted(5, 1), nil}, 6, 0, 5, 0, 5, 0)
	mins(t, 6, [][]api.Item{counted(5, 1), counted(0, 1), counted(9, 2), nil}, 6, 0, 9, 0)
}

func TestMinsOfWhateverNumbers(t *testing.T) {
	groups, want := [][]api.Item{counted(1, 1)}, []int{0}
	for _, n := range noNumbers() {
		groups, want = append(groups, []api.Item{item(n, 3, 4), item(8, 8, 8)}), append(want, n)
	}
	for _, n := range noNumbers() {
		want[0] = n
		mins(t, n, groups, want...)
	}
}

// P9.2: Chunks

func TestChunksOfOneGroup(t *testing.T) {
	group := [][]api.Item{{item(4, 0, 10), item(5, 9, 11)}}
	chunks(t, two(), 100, 60, 3, group, api.Chunk{At: 100, Min: 3, Count: 2, Next: 120, Cells: cells(4, api.Cell{State: 3, Key: 4, Data: 10}, api.Cell{State: 12, Key: 5, Data: 11})})
}

// TestChunksOfAnEmptyGroup: a chunk without items.
func TestChunksOfAnEmptyGroup(t *testing.T) {
	empty := api.Chunk{At: 35, Min: 3, Next: 90, Cells: cells(4)}
	chunks(t, two(), 35, 45, 3, [][]api.Item{nil}, empty)
	chunks(t, two(), 35, 45, 3, [][]api.Item{{}}, empty)
	chunks(t, two(), 35, 45, 3, Split(nil, 4), empty)
}

func TestChunksOfNoGroups(t *testing.T) {
	noChunks(t, two(), nil)
	noChunks(t, two(), [][]api.Item{})
	noChunks(t, eight(), nil)
}

// TestChunksLieOneBehindTheOther: an empty group, too, has a chunk, at whatever place in the row.
func TestChunksLieOneBehindTheOther(t *testing.T) {
	groups := [][]api.Item{nil, counted(4, 1), nil, counted(8, 1, 9, 1)}
	chunks(t, two(), 100, 0, 3, groups,
		api.Chunk{At: 100, Min: 3, Next: 2 * 119, Cells: cells(4)},
		api.Chunk{At: 119, Min: 4, Count: 1, Next: 2 * 138, Cells: cells(4, api.Cell{State: 3, Key: 4, Data: 100})},
		api.Chunk{At: 138, Next: 2 * 157, Cells: cells(4)},
		api.Chunk{At: 157, Min: 8, Count: 2, Cells: cells(4, api.Cell{State: 3, Key: 8, Data: 100}, api.Cell{State: 3, Key: 9, Data: 101})})
}

// TestChunksOfManyGroups: Size apart for each number of cells, whether the words suffice for so many or not.
func TestChunksOfManyGroups(t *testing.T) {
	var groups [][]api.Item
	for key := range 64 {
		groups = append(groups, counted(key, key%4))
	}
	for n := 4; n <= api.MaxCap; n++ {
		c := api.Conf{Threads: 2, Cap: n, Words: 200, Versions: 1}
		size := 7 + 3*n
		var want []api.Chunk
		for i, group := range groups {
			x := api.Chunk{At: 50 + i*size, Min: i, Count: i % 4, Next: 2 * (50 + (i+1)*size), Cells: cells(n)}
			if len(group) == 0 {
				x.Min = 0
			}
			for j, y := range group {
				x.Cells[j] = api.Cell{State: y.Version + 3, Key: y.Key, Data: y.Data}
			}
			want = append(want, x)
		}
		want[0].Min, want[63].Next = 9, 2*31
		chunks(t, c, 50, 31, 9, groups, want...)
	}
}

// TestChunksOfFullGroups: of just Cap items; none at all, if one group, wherever it stands, has one more.
func TestChunksOfFullGroups(t *testing.T) {
	for _, c := range []api.Conf{two(), eight(), {Threads: 1, Cap: 3, Words: 40, Versions: 1}} {
		full, over := counted(5, c.Cap), counted(5, c.Cap+1)
		got := asksChunks(t, c, 100, 0, 5, [][]api.Item{full, full, nil})
		if len(got) != 3 || got[0].Count != c.Cap || got[1].Count != c.Cap || !slices.Equal(view.Items(got[1]), full) {
			t.Errorf("P9.2: Chunks of %v, full groups: %v", c, got)
		}
		noChunks(t, c, [][]api.Item{over})
		for at := range 3 {
			noChunks(t, c, slices.Insert([][]api.Item{full, nil}, at, over))
		}
		noChunks(t, c, [][]api.Item{nil, counted(5, 1000), full})
	}
}

// TestChunksLeadToWhatLiesBehind: 0, a place, even or odd, without a mark.
func TestChunksLeadToWhatLiesBehind(t *testing.T) {
	for _, after := range []int{0, 1, 2, 3, 16, 35, 119, 157, 19999, 20000, 1<<30 - 1, 1 << 30} {
		for n := 1; n < 5; n++ {
			got := asksChunks(t, two(), 100, after, 3, slices.Repeat([][]api.Item{counted(5, 2)}, n))
			for i, x := range got {
				want := 2 * after
				if i < n-1 {
					want = 2 * (119 + 19*i)
				}
				if x.Next != want || x.At != 100+19*i || len(got) != n {
					t.Errorf("P9.2: after %d: chunk %d of %d: %v", after, i, n, x)
				}
			}
		}
	}
}

// TestChunksAsViewTellsThem: laid into an arena, they are told as they were made, with their items.
func TestChunksAsViewTellsThem(t *testing.T) {
	c := two()
	c.Cap = 8
	a, err := place.Make(c)
	if err != nil {
		t.Fatal(err)
	}
	l := keep.Sort(drawn(drawer(5), 20, 12, 30))
	var items []api.Item
	for _, x := range Chunks(c, place.Top(c), 0, 0, Split(l, c.Cap)) {
		if err := view.Lay(c, a, x); err != nil {
			t.Fatalf("P9.2: Lay of %v: %v", x, err)
		}
		got, err := view.Chunk(c, a, x.At)
		if err != nil || !view.Same(got, x) {
			t.Errorf("P9.2: %v lies as %v, %v", x, got, err)
		}
		items = append(items, view.Items(got)...)
	}
	if !slices.Equal(items, l) {
		t.Errorf("P9.2: laid were %v, not %v", items, l)
	}
}

// wrongConfs: what place's Is refuses, each for another reason.
func wrongConfs() []api.Conf {
	l := []api.Conf{{}, {Threads: 2, Cap: 4, Words: 34, Versions: 1}, {Threads: 2, Cap: 3, Words: 1000, Versions: 1}, {Threads: 3, Cap: 4, Words: 1000, Versions: 1}, {Threads: 1, Cap: 16, Words: 69, Versions: 1}}
	for _, n := range noNumbers() {
		for i := range 4 {
			c := two()
			*[]*int{&c.Threads, &c.Cap, &c.Words, &c.Versions}[i] = n
			if place.Is(c) != nil {
				l = append(l, c)
			}
		}
	}
	return l
}

func TestChunksOfAWrongConf(t *testing.T) {
	for _, c := range wrongConfs() {
		if place.Is(c) == nil {
			t.Errorf("%v is no wrong conf", c)
		}
		for _, groups := range [][][]api.Item{nil, {nil}, {counted(5, 1)}, {nil, counted(5, 20)}} {
			noChunks(t, c, groups)
		}
	}
	for _, c := range []api.Conf{{Threads: 2, Cap: 4, Words: 35, Versions: 1}, {Threads: 1, Cap: 16, Words: 70, Versions: 1}, {Threads: 1, Cap: 3, Words: 31, Versions: api.MaxVersions}, eight()} {
		if got := asksChunks(t, c, 100, 200, 5, [][]api.Item{counted(5, 1)}); len(got) != 1 || place.Is(c) != nil {
			t.Errorf("P9.2: Chunks of %v: %v", c, got)
		}
	}
}

// TestChunksAtNumbersThatAreNoPlaces: Size apart as ints go round; the words hold what word puts in.
func TestChunksAtNumbersThatAreNoPlaces(t *testing.T) {
	for _, at := range noNumbers() {
		for _, after := range noNumbers() {
			next := at + 19
			chunks(t, two(), at, after, 3, [][]api.Item{counted(5, 1), nil},
				api.Chunk{At: at, Min: 3, Count: 1, Next: 2 * min(max(next, 0), 1<<30), Cells: cells(4, api.Cell{State: 3, Key: 5, Data: 100})},
				api.Chunk{At: next, Next: 2 * min(max(after, 0), 1<<30), Cells: cells(4)})
		}
	}
}

// TestChunksOfWhateverItems: keys and data as they are, versions as word's State holds them.
func TestChunksOfWhateverItems(t *testing.T) {
	for _, n := range noNumbers() {
		for _, version := range noNumbers() {
			state := 3 + min(max(version, 0), 1<<24-4)
			if state != word.State(version) {
				t.Errorf("State of %d: %d", version, word.State(version))
			}
			one := cells(4, api.Cell{State: state, Key: n, Data: -n})
			chunks(t, two(), 100, 5, version, [][]api.Item{{item(n, version, -n)}, {item(n, version, -n)}},
				api.Chunk{At: 100, Min: version, Count: 1, Next: 238, Cells: one},
				api.Chunk{At: 119, Min: n, Count: 1, Next: 10, Cells: one})
		}
	}
}

// TestChunksLeaveItemsAsTheyStand: in no order, and one twice.
func TestChunksLeaveItemsAsTheyStand(t *testing.T) {
	group := []api.Item{item(9, 4, 1), item(3, 5, 2), item(9, 4, 1)}
	chunks(t, two(), 35, 0, 7, [][]api.Item{group, group[1:]},
		api.Chunk{At: 35, Min: 7, Count: 3, Next: 108, Cells: cells(4, api.Cell{State: 7, Key: 9, Data: 1}, api.Cell{State: 8, Key: 3, Data: 2}, api.Cell{State: 7, Key: 9, Data: 1})},
		api.Chunk{At: 54, Min: 3, Count: 2, Cells: cells(4, api.Cell{State: 8, Key: 3, Data: 2}, api.Cell{State: 7, Key: 9, Data: 1})})
}

// P9.3

// TestHalfFullAndNoKeyInTwo: all items in the order of Sort; no group of several keys is more than half
// full, no key is in two groups, and no group could have had the next one's first key, too.
func TestHalfFullAndNoKeyInTwo(t *testing.T) {
	for seed := range 300 {
		draw := drawer(seed)
		l := keep.Sort(drawn(draw, draw(60), 1+draw(30), 1+draw(9)))
		n := draw(20)
		half := min(max(n, 2), api.MaxCap) / 2
		groups := asksSplit(t, l, n)
		if !slices.Equal(slices.Concat(groups...), l) {
			t.Errorf("P9.3: Split of %v, %d tells %v", l, n, groups)
		}
		for i, group := range groups {
			if len(keep.Keys(group)) > 1 && len(group) > half || len(group) == 0 && len(l) > 0 {
				t.Errorf("P9.3: Split of %v, %d: group %d has %d items", l, n, i, len(group))
			}
			if i > 0 && !isBegunRightly(groups[i-1], group, half) {
				t.Errorf("P9.3: Split of %v, %d: groups %d and %d: %v, %v", l, n, i-1, i, groups[i-1], group)
			}
		}
	}
}

// isBegunRightly: the group's first key is above all keys of the one ahead of it, and wouldn't have gone into it.
func isBegunRightly(ahead, group []api.Item, half int) bool {
	key := group[0].Key
	n := 0
	for _, x := range group {
		if x.Key == key {
			n++
		}
	}
	return ahead[len(ahead)-1].Key < key && len(ahead)+n > half
}

// TestNewChunksHaveRoom: of keys that have not more than half of a chunk's cells each, whatever chunk is made has room for as many again.
func TestNewChunksHaveRoom(t *testing.T) {
	for seed := range 100 {
		draw := drawer(seed)
		var l []api.Item
		for key := range draw(40) {
			l = append(l, counted(key, 1+draw(8))...)
		}
		for i, x := range Chunks(eight(), 100, 0, 0, Split(l, api.MaxCap)) {
			if x.Count > 8 || x.Cells[8] != (api.Cell{}) || i > 0 && x.Min != x.Cells[0].Key {
				t.Errorf("P9.3: chunk %d of %v: %v", i, l, x)
			}
		}
	}
}

// What holds everywhere

// TestSplitSharesNoMemory: nothing that is done with an answer, or with l later on, touches another list.
func TestSplitSharesNoMemory(t *testing.T) {
	l := counted(1, 1, 2, 1, 3, 5, 4, 2, 5, 1, 6, 2)
	was := slices.Clone(l)
	first, second := Split(l, 4), Split(l, 4)
	want := fmt.Sprint(second)
	for i := range first {
		for j := range first[i][:cap(first[i])] {
			first[i][:cap(first[i])][j] = item(-i, -j, -1)
		}
	}
	for i := range first {
		for j, x := range first[i][:cap(first[i])] {
			if x != item(-i, -j, -1) {
				t.Errorf("group %d shares memory with another one: %v", i, x)
			}
		}
	}
	spoil(first)
	if got := fmt.Sprint(second); got != want || !slices.Equal(l, was) {
		t.Errorf("another answer, or l, is changed: %s, was %s; %v", got, want, l)
	}
	clear(l)
	if got := fmt.Sprint(second); got != want {
		t.Errorf("l is kept: %s, was %s", got, want)
	}
}

// spoil changes all of a list and of the spare room behind it.
func spoil[E any](l []E) { clear(l[:cap(l)]) }

func TestMinsShareNoMemory(t *testing.T) {
	groups := [][]api.Item{counted(4, 1), counted(7, 2)}
	first, second := Mins(3, groups), Mins(3, groups)
	spoil(first)
	if !slices.Equal(second, []int{3, 7}) {
		t.Errorf("another answer is changed: %v", second)
	}
}

func TestChunksShareNoMemory(t *testing.T) {
	groups := [][]api.Item{counted(4, 2), nil, counted(7, 4)}
	first, second := Chunks(two(), 100, 0, 3, groups), Chunks(two(), 100, 0, 3, groups)
	want := fmt.Sprint(second)
	for i := range first {
		l := first[i].Cells[:cap(first[i].Cells)]
		for j := range l {
			l[j] = api.Cell{State: -i, Key: -j, Data: -1}
		}
	}
	for i := range first {
		for j, x := range first[i].Cells[:cap(first[i].Cells)] {
			if x != (api.Cell{State: -i, Key: -j, Data: -1}) {
				t.Errorf("the cells of chunk %d share memory with another one's: %v", i, x)
			}
		}
	}
	spoil(first)
	clear(groups[2])
	clear(groups)
	if got := fmt.Sprint(second); got != want {
		t.Errorf("another answer is changed, or the groups are kept: %s, was %s", got, want)
	}
}

// TestManyItems: as many as would take too long if each key went through all of them.
func TestManyItems(t *testing.T) {
	var l []api.Item
	for key := range 200000 {
		l = append(l, item(key, key%5, key))
	}
	groups := Split(l, 4)
	if len(groups) != 100000 || groups[99999][1] != l[199999] {
		t.Errorf("P9.1: %d groups", len(groups))
	}
	if got := Mins(-7, groups); len(got) != 100000 || got[0] != -7 || got[99999] != 199998 {
		t.Errorf("P9.1: %d mins", len(got))
	}
	if got := Chunks(two(), 35, 0, 0, groups); len(got) != 100000 || got[99999].At != 35+99999*19 || got[99998].Next != 2*got[99999].At {
		t.Errorf("P9.2: %d chunks", len(got))
	}
}
