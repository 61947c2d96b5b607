package chain

import (
	"math"
	"reflect"
	"slices"
	"testing"

	"armillary/api"
	"armillary/arena"
	"armillary/place"
	"armillary/view"
)

// two threads, chunks of four cells: Head is at 9, its FNext at 11, the first chunk at 16.
func two() api.Conf { return api.Conf{Threads: 2, Cap: 4, Words: 1000, Versions: 100} }

// least and most: the fewest and the most cells.
func least() api.Conf { return api.Conf{Threads: 1, Cap: 3, Words: 1000, Versions: 1} }

func most() api.Conf {
	return api.Conf{Threads: 8, Cap: 16, Words: 20000, Versions: 1 << 20}
}

func confs() []api.Conf { return []api.Conf{two(), least(), most()} }

// headNext: the place of Head's FNext.
func headNext(c api.Conf) int { return 3 + c.Threads + 4 + 2 }

func first(c api.Conf) int { return 3 + c.Threads + 4 + 7 }

func size(c api.Conf) int { return 7 + 3*c.Cap }

// to and marked: words that tell a place.
func to(at int) int { return 2 * at }

func marked(at int) int { return 2*at + 1 }

// chunk of cells; what isn't told is empty.
func chunk(c api.Conf, at, from, next int, cells ...api.Cell) api.Chunk {
	x := api.Chunk{At: at, Min: from, Count: len(cells), Next: next, Cells: make([]api.Cell, c.Cap)}
	copy(x.Cells, cells)
	return x
}

// given: a cell with a version; val -1: what is deleted.
func given(version, key, val int) api.Cell {
	return api.Cell{State: 3 + version, Key: key, Data: 1002<<21 + val + 1}
}

func pair(key, val int) api.Pair { return api.Pair{Key: key, Val: val} }

// noNumbers: of places, keys and words, those that are none.
func noNumbers() []int {
	return []int{math.MinInt, math.MinInt + 1, -1 << 62, -1 << 40, -20000, -64, -33, -32, -17, -16, -2, -1, 20000, 20001, 40000, 1 << 40, 1 << 62, math.MaxInt - 1, math.MaxInt}
}

func made(t *testing.T, c api.Conf) *arena.Arena {
	t.Helper()
	a, err := place.Make(c)
	if err != nil {
		t.Fatalf("P3.2: Make of %+v: %v", c, err)
	}
	return a
}

// laid: a new arena with these chunks, and with some accesses behind it.
func laid(t *testing.T, c api.Conf, l ...api.Chunk) *arena.Arena {
	t.Helper()
	a := made(t, c)
	a.Store(0, 5)
	a.Swap(0, 5, 6)
	lay(t, c, a, l...)
	return a
}

func lay(t *testing.T, c api.Conf, a *arena.Arena, l ...api.Chunk) {
	t.Helper()
	for _, x := range l {
		if err := view.Lay(c, a, x); err != nil {
			t.Fatalf("P6.1: Lay of %+v: %v", x, err)
		}
	}
}

// still: what the call answers, twice alike, while it is no access and changes no word.
func still[T any](t *testing.T, what string, a *arena.Arena, call func() T) T {
	t.Helper()
	was := a.Copy()
	got := call()
	if again := call(); !reflect.DeepEqual(got, again) {
		t.Fatalf("%s: %v, then %v", what, got, again)
	}
	if a.Accesses() != was.Accesses() || a.Last() != was.Last() {
		t.Fatalf("%s is an access: %d, %+v", what, a.Accesses()-was.Accesses(), a.Last())
	}
	for at := range was.Len() {
		if a.Peek(at) != was.Peek(at) {
			t.Fatalf("%s changes the word at %d from %d to %d", what, at, was.Peek(at), a.Peek(at))
		}
	}
	return got
}

func all(t *testing.T, c api.Conf, a *arena.Arena, want ...int) {
	t.Helper()
	if got := still(t, "All", a, func() []int { return All(c, a) }); !slices.Equal(got, want) {
		t.Errorf("P7.1: All: %v, not %v", got, want)
	}
}

func is(t *testing.T, what string, c api.Conf, a *arena.Arena, want bool) {
	t.Helper()
	if got := still(t, "Is", a, func() bool { return Is(c, a) }); got != want {
		t.Errorf("P7.1: %s: Is: %v, not %v", what, got, want)
	}
}

func of(t *testing.T, c api.Conf, a *arena.Arena, key, want int) {
	t.Helper()
	if got := still(t, "Of", a, func() int { return Of(c, a, key) }); got != want {
		t.Errorf("P7.2: Of %d: %d, not %d", key, got, want)
	}
}

func now(t *testing.T, c api.Conf, a *arena.Arena, want ...api.Pair) {
	t.Helper()
	if got := still(t, "Now", a, func() []api.Pair { return Now(c, a) }); !slices.Equal(got, want) {
		t.Errorf("P7.2: Now: %v, not %v", got, want)
	}
}

// P7.1: All

func TestANewArenaHasTheFirstChunk(t *testing.T) {
	for _, c := range confs() {
		a := made(t, c)
		all(t, c, a, first(c))
		is(t, "a new arena", c, a, true)
		now(t, c, a)
		for _, key := range []int{0, 1, 62, 63} {
			of(t, c, a, key, first(c))
		}
	}
}

func TestAllOfOneTwoThreeChunks(t *testing.T) {
	c := two()
	one, second, third := chunk(c, 16, 0, 0), chunk(c, 100, 5, 0), chunk(c, 60, 9, 0)
	all(t, c, laid(t, c, one), 16)
	all(t, c, laid(t, c, one, second, third), 16) // a chunk that nobody tells isn't told
	one.Next = to(100)
	all(t, c, laid(t, c, one, second), 16, 100)
	second.Next = to(60)
	all(t, c, laid(t, c, one, second, third), 16, 100, 60)
	third.Next = to(300)
	all(t, c, laid(t, c, one, second, third), 16, 100, 60, 300) // empty words are a chunk, too
}

// TestMarkedWordsTellTheirPlace: each of the words, marked or not.
func TestMarkedWordsTellTheirPlace(t *testing.T) {
	c := two()
	for marks := range 16 {
		mark := func(i int) int { return marks >> i & 1 }
		a := laid(t, c, chunk(c, 16, 0, to(100)+mark(1)), chunk(c, 100, 5, to(60)+mark(2)), chunk(c, 60, 9, mark(3)))
		a.Poke(headNext(c), to(16)+mark(0))
		all(t, c, a, 16, 100, 60)
		is(t, "marked words", c, a, true)
		of(t, c, a, 8, 100)
	}
}

func TestAllBeginsWhereHeadTells(t *testing.T) {
	for _, c := range confs() {
		a := laid(t, c, chunk(c, first(c), 0, 0), chunk(c, 200, 0, to(300)))
		a.Poke(headNext(c), to(200))
		all(t, c, a, 200, 300)
		a.Poke(headNext(c), marked(300))
		all(t, c, a, 300)
		is(t, "another first chunk", c, a, true)
	}
}

func TestAHeadThatTellsNothing(t *testing.T) {
	for _, c := range confs() {
		a := laid(t, c, chunk(c, first(c), 0, 0, given(0, 1, 1)))
		last := c.Words - size(c)
		for _, w := range append(noNumbers(), 0, 1, to(last+1), marked(last+1), to(c.Words), to(c.Words-1)) {
			if w == 20000 || w == 20001 {
				continue // of the most words there is a chunk
			}
			a.Poke(headNext(c), w)
			all(t, c, a)
			is(t, "a head that tells nothing", c, a, false)
			now(t, c, a)
			for _, key := range []int{math.MinInt, -1, 0, 63, math.MaxInt} {
				of(t, c, a, key, 0)
			}
		}
	}
}

func TestAllAtTheLastPlaceAndOneFurtherOn(t *testing.T) {
	for _, c := range confs() {
		last := c.Words - size(c)
		for mark := range 2 {
			a := laid(t, c, chunk(c, first(c), 0, to(last)+mark), chunk(c, last, 9, 0))
			all(t, c, a, first(c), last)
			is(t, "the last place", c, a, true)
			of(t, c, a, 9, last)

			a.Poke(first(c)+api.FNext, to(last+1)+mark)
			all(t, c, a, first(c))
			is(t, "one further on", c, a, false)
			of(t, c, a, 9, first(c))
		}
	}
}

// TestAllUpToAPlaceAtWhichNoChunkIs: told by the last of one, of two, of three chunks.
func TestAllUpToAPlaceAtWhichNoChunkIs(t *testing.T) {
	c := two()
	places := []int{16, 100, 60}
	for n := 1; n <= 3; n++ {
		a := laid(t, c, chunk(c, 16, 0, to(100)), chunk(c, 100, 5, to(60)), chunk(c, 60, 9, 0))
		for _, w := range append(noNumbers(), to(982), marked(982), to(999), to(1000), marked(1001)) {
			a.Poke(places[n-1]+api.FNext, w)
			all(t, c, a, places[:n]...)
			is(t, "a place at which no chunk is", c, a, false)
		}
	}
}

// TestAllUpToOneThatWasTold: the last of one to four chunks tells each of them, also itself.
func TestAllUpToOneThatWasTold(t *testing.T) {
	c := two()
	places := []int{16, 100, 60, 300}
	for n := 1; n <= 4; n++ {
		a := laid(t, c, chunk(c, 16, 0, to(100)), chunk(c, 100, 5, to(60)), chunk(c, 60, 9, to(300)), chunk(c, 300, 11, 0))
		for _, told := range places[:n] {
			for mark := range 2 {
				a.Poke(places[n-1]+api.FNext, to(told)+mark)
				all(t, c, a, places[:n]...)
				is(t, "one that was told", c, a, false)
			}
		}
	}
}

// TestAllOfEachWayToLink: three places; each FNext tells one of them, nothing, or what is no place.
func TestAllOfEachWayToLink(t *testing.T) {
	c := two()
	words := []int{0, 1, to(16), marked(100), to(981), to(982), -1}
	follow := map[int]int{to(16): 16, marked(100): 100, to(981): 981}
	for _, h := range words {
		for _, x := range words {
			for _, y := range words {
				for _, z := range words {
					a := laid(t, c, chunk(c, 16, 0, x), chunk(c, 100, 5, y), chunk(c, 981, 9, z))
					a.Poke(11, h)
					next := map[int]int{16: follow[x], 100: follow[y], 981: follow[z]}
					var want []int
					for at := follow[h]; at != 0 && !slices.Contains(want, at); at = next[at] {
						want = append(want, at)
					}
					all(t, c, a, want...)
				}
			}
		}
	}
}

// TestAllOfAsManyChunksAsThereAreWordsFor: of the fewest cells, of the most.
func TestAllOfAsManyChunksAsThereAreWordsFor(t *testing.T) {
	for _, c := range []api.Conf{{Threads: 1, Cap: 3, Words: 20000, Versions: 1}, most()} {
		var want []int
		var l []api.Chunk
		for at := first(c); at+size(c) <= c.Words; at += size(c) {
			l = append(l, chunk(c, at, len(l), to(at+size(c)), given(len(l), len(l), len(l))))
			want = append(want, at)
		}
		l[len(l)-1].Next = 1
		a := laid(t, c, l...)
		if len(want) != (20000-first(c))/size(c) {
			t.Fatalf("%d chunks", len(want))
		}
		all(t, c, a, want...)
		is(t, "many chunks", c, a, true)
		of(t, c, a, 63, want[63])
		of(t, c, a, 1<<40, want[len(want)-1])
		if got := Now(c, a); len(got) != len(want) || got[200] != pair(200, 200) {
			t.Errorf("P7.2: Now: %d pairs, of many chunks", len(got))
		}
		a.Poke(want[len(want)-1]+api.FNext, to(want[100]))
		all(t, c, a, want...)
		is(t, "many chunks, in a circle", c, a, false)
	}
}

// TestChunksMayLieOverEachOther: a chunk at each place that there is, each told by the one ahead of it.
func TestChunksMayLieOverEachOther(t *testing.T) {
	c := two()
	a := arena.New(1000)
	var places []int
	for at := range 1000 {
		a.Poke(at+api.FNext, to(at+1))
		places = append(places, at)
	}
	a.Poke(headNext(c), to(10))
	all(t, c, a, places[10:982]...)
	is(t, "chunks over each other", c, a, false)
	a.Poke(headNext(c), to(1))
	all(t, c, a, places[1:10]...) // the one at 9 lies as Head does, and tells 1 again
}

// P7.1: Is

// three chunks, each with a key at its FMin and one just below the next one's; the last one's FNext is marked.
func three(c api.Conf) []api.Chunk {
	return []api.Chunk{
		chunk(c, 30, 0, to(200), given(0, 0, 7), given(3, 4, 1)),
		chunk(c, 200, 5, marked(100), given(1, 5, 2), given(2, 19, 3)),
		chunk(c, 100, 20, 1, given(1, 20, 4), given(1, 63, 5)),
	}
}

func laidThree(t *testing.T, c api.Conf) *arena.Arena {
	t.Helper()
	a := laid(t, c, three(c)...)
	a.Poke(headNext(c), to(30))
	return a
}

func TestIsOfThreeChunks(t *testing.T) {
	for _, c := range confs() {
		a := laidThree(t, c)
		all(t, c, a, 30, 200, 100)
		is(t, "three chunks", c, a, true)
	}
}

// TestIsOfFirstFMins: of a chain of one chunk without a key, and of the first of three.
func TestIsOfFirstFMins(t *testing.T) {
	for _, c := range confs() {
		one, l := made(t, c), laidThree(t, c)
		l.Poke(place.State(30, 0), api.Empty) // so that no key is below
		for _, from := range append(noNumbers(), 1, 2, 63, 64) {
			one.Poke(first(c)+api.FMin, from)
			is(t, "one, of a first FMin that isn't 0", c, one, false)
			l.Poke(30+api.FMin, from)
			is(t, "three, of a first FMin that isn't 0", c, l, false)
		}
		l.Poke(30+api.FMin, 0)
		is(t, "first FMin 0", c, l, true)
	}
}

// TestIsOfFMinsThatDoNotRise: chunks without keys, so that the FMins alone tell.
func TestIsOfFMinsThatDoNotRise(t *testing.T) {
	c := two()
	for second := -2; second <= 4; second++ {
		for third := -2; third <= 5; third++ {
			a := laid(t, c, chunk(c, 16, 0, to(200)), chunk(c, 200, second, to(100)), chunk(c, 100, third, 0))
			is(t, "FMins that rise or not", c, a, 0 < second && second < third)
		}
	}
	for _, least := range append(noNumbers(), 64, 63, 1) {
		a := laid(t, c, chunk(c, 16, 0, to(200)), chunk(c, 200, least, 0))
		is(t, "FMins that are no keys", c, a, least > 0)
	}
}

// TestIsOfKeysJustWithinAndJustBeyond: a cell of each of the three, at each place in its chunk.
func TestIsOfKeysJustWithinAndJustBeyond(t *testing.T) {
	for _, c := range confs() {
		for i := range c.Cap {
			for _, x := range []struct {
				at, key int
				want    bool
			}{
				{30, math.MinInt, false}, {30, -1, false}, {30, 0, true}, {30, 1, true}, {30, 3, true}, {30, 4, true}, {30, 5, false}, {30, 6, false}, {30, 19, false}, {30, 63, false}, {30, math.MaxInt, false},
				{200, math.MinInt, false}, {200, 0, false}, {200, 4, false}, {200, 5, true}, {200, 6, true}, {200, 18, true}, {200, 19, true}, {200, 20, false}, {200, 21, false}, {200, math.MaxInt, false},
				{100, math.MinInt, false}, {100, 0, false}, {100, 5, false}, {100, 19, false}, {100, 20, true}, {100, 21, true}, {100, 63, true},
				{100, 64, true}, {100, 1 << 40, true}, {100, math.MaxInt, true}, // nothing is behind the last one
			} {
				a := laidThree(t, c)
				a.Poke(place.State(x.at, i)+1, x.key)
				a.Poke(place.State(x.at, i), 3)
				is(t, "a key with a version", c, a, x.want)
			}
		}
	}
}

// TestIsAsksCellsWithAVersionAlone: whatever keys the other ones have.
func TestIsAsksCellsWithAVersionAlone(t *testing.T) {
	c := two()
	for i := range c.Cap {
		for _, state := range []int{math.MinInt, -3, -1, api.Empty, api.Posted, api.Dead, api.Given, 4, 5, 102, 103, 1 << 23, math.MaxInt} {
			for _, at := range []int{30, 200, 100} {
				for _, key := range []int{math.MinInt, -1, math.MaxInt} {
					a := laidThree(t, c)
					a.Poke(place.State(at, i)+1, key)
					a.Poke(place.State(at, i), state)
					is(t, "a cell of some state", c, a, state < api.Given || at == 100 && key == math.MaxInt)
				}
			}
		}
	}
}

// TestIsOfMovedBounds: the keys stay, the FMins go on.
func TestIsOfMovedBounds(t *testing.T) {
	c := two()
	for _, x := range []struct {
		at, least int
		want      bool
	}{
		{200, 3, false}, {200, 4, false}, {200, 5, true}, {200, 6, false}, {200, 19, false}, {200, 20, false},
		{100, 18, false}, {100, 19, false}, {100, 20, true}, {100, 21, false}, {100, 5, false}, {100, 4, false},
	} {
		a := laidThree(t, c)
		a.Poke(x.at+api.FMin, x.least)
		is(t, "another FMin", c, a, x.want)
	}
}

// TestIsOfWhatTheLastOneTells: nothing, marked or not; else it doesn't hold.
func TestIsOfWhatTheLastOneTells(t *testing.T) {
	for _, c := range confs() {
		for _, w := range append(noNumbers(), 0, 1, to(30), marked(200), to(100), to(c.Words-size(c)+1), to(c.Words), marked(c.Words)) {
			if w == 20000 || w == 20001 {
				continue // of the most words there is a chunk
			}
			a := laidThree(t, c)
			a.Poke(100+api.FNext, w)
			all(t, c, a, 30, 200, 100)
			is(t, "what the last one tells", c, a, w == 0 || w == 1)
		}
	}
}

// TestIsHangsOnNothingElse: whatever the other words of the chunks are.
func TestIsHangsOnNothingElse(t *testing.T) {
	c := two()
	for _, f := range []int{api.FCount, api.FLead, api.FMate, api.FRepl, api.FStatus} {
		for _, at := range []int{9, 30, 200, 100} {
			for _, w := range append(noNumbers(), 0, 1, 2, 3, 4, 5, 16, 30) {
				a := laidThree(t, c)
				a.Poke(at+f, w)
				a.Poke(9+api.FMin, w)
				is(t, "another word", c, a, true)
				all(t, c, a, 30, 200, 100)
				of(t, c, a, 19, 200)
				now(t, c, a, pair(0, 7), pair(4, 1), pair(5, 2), pair(19, 3), pair(20, 4), pair(63, 5))
			}
		}
	}
}

// P7.2: Of

func TestOfKeysBelowAtAndAboveALeastKey(t *testing.T) {
	for _, c := range confs() {
		a := laidThree(t, c)
		for _, x := range []struct{ key, at int }{
			{math.MinInt, 0}, {-64, 0}, {-1, 0}, {0, 30}, {1, 30}, {4, 30}, {5, 200}, {6, 200}, {19, 200}, {20, 100}, {21, 100}, {63, 100}, {64, 100}, {math.MaxInt, 100},
		} {
			of(t, c, a, x.key, x.at)
		}
	}
}

// TestOfTheLastOneThatIsNotAbove: also where the FMins don't rise, where several are alike, where they are no keys.
func TestOfTheLastOneThatIsNotAbove(t *testing.T) {
	c := two()
	mins := []int{math.MinInt, -1, 0, 1, 5, 6, math.MaxInt}
	places := []int{16, 200, 100}
	for _, x := range mins {
		for _, y := range mins {
			for _, z := range mins {
				a := laid(t, c, chunk(c, 16, x, to(200)), chunk(c, 200, y, marked(100)), chunk(c, 100, z, 0))
				for _, key := range append(mins, 4, 63) {
					want := 0
					for i, least := range []int{x, y, z} {
						if least <= key {
							want = places[i]
						}
					}
					of(t, c, a, key, want)
				}
			}
		}
	}
}

func TestOfNoneIsZero(t *testing.T) {
	c := two()
	a := laid(t, c, chunk(c, 16, 5, to(200)), chunk(c, 200, 9, 0))
	for _, key := range []int{math.MinInt, -1, 0, 1, 4} {
		of(t, c, a, key, 0)
	}
	of(t, c, a, 5, 16)
}

// TestOfHangsOnFMinsAlone: not on where a chunk's keys lie.
func TestOfHangsOnFMinsAlone(t *testing.T) {
	c := two()
	a := laid(t, c, chunk(c, 16, 0, to(200), given(0, 8, 1), given(9, 63, 1)), chunk(c, 200, 7, 0, given(0, 1, 1)))
	of(t, c, a, 1, 16)
	of(t, c, a, 6, 16)
	of(t, c, a, 8, 200)
	of(t, c, a, 63, 200)
}

// P7.2: Now

func TestNowOfOneTwoThreeChunks(t *testing.T) {
	c := two()
	now(t, c, laid(t, c, chunk(c, 16, 0, 0, given(5, 9, 1), given(4, 3, 2))), pair(3, 2), pair(9, 1))
	now(t, c, laid(t, c, chunk(c, 16, 0, to(200), given(5, 4, 1), given(4, 3, 2)), chunk(c, 200, 5, 0, given(0, 63, 0), given(0, 5, 9))),
		pair(3, 2), pair(4, 1), pair(5, 9), pair(63, 0))
	now(t, c, laidThree(t, c), pair(0, 7), pair(4, 1), pair(5, 2), pair(19, 3), pair(20, 4), pair(63, 5))
}

func TestNowOfEachStateOfACell(t *testing.T) {
	c := two()
	for i := range c.Cap {
		for _, x := range []struct {
			state int
			is    bool
		}{
			{math.MinInt, false}, {-3, false}, {-1, false}, {api.Empty, false}, {api.Posted, false}, {api.Dead, false},
			{api.Given, true}, {4, true}, {5, true}, {103, true}, {api.MaxVersions + 3, true}, {math.MaxInt, true},
		} {
			a := laid(t, c, chunk(c, 16, 0, 0))
			a.Poke(place.State(16, i), x.state)
			a.Poke(place.State(16, i)+1, 8)
			a.Poke(place.State(16, i)+2, 7<<21+41)
			if x.is {
				now(t, c, a, pair(8, 40))
			} else {
				now(t, c, a)
			}
		}
	}
}

// TestNowOfCellsThatHaveNoVersionYet: they hide nothing of their keys.
func TestNowOfCellsThatHaveNoVersionYet(t *testing.T) {
	c := two()
	for _, state := range []int{-1, api.Empty, api.Posted, api.Dead} {
		other := api.Cell{State: state, Key: 8, Data: 9<<21 + 100}
		now(t, c, laid(t, c, chunk(c, 16, 0, 0, given(0, 8, 5), other)), pair(8, 5))
		now(t, c, laid(t, c, chunk(c, 16, 0, 0, other, given(0, 8, 5))), pair(8, 5))
		now(t, c, laid(t, c, chunk(c, 16, 0, to(200), given(0, 8, 5)), chunk(c, 200, 9, 0, other)), pair(8, 5))
	}
}

// TestNowOfSeveralVersions: of each order of three, in one chunk and in several.
func TestNowOfSeveralVersions(t *testing.T) {
	c := two()
	for _, v := range [][3]int{{1, 2, 3}, {1, 3, 2}, {2, 1, 3}, {2, 3, 1}, {3, 1, 2}, {3, 2, 1}, {0, 1 << 20, 7}, {1 << 20, 0, 1<<20 - 1}} {
		want := pair(8, 10+slices.Index(v[:], slices.Max(v[:])))
		x, y, z := given(v[0], 8, 10), given(v[1], 8, 11), given(v[2], 8, 12)
		now(t, c, laid(t, c, chunk(c, 16, 0, 0, x, y, z)), want)
		now(t, c, laid(t, c, chunk(c, 16, 0, to(200), x, y), chunk(c, 200, 8, 0, z)), want)
		now(t, c, laid(t, c, chunk(c, 16, 0, to(200), x), chunk(c, 200, 8, 0, y, z)), want)
		now(t, c, laid(t, c, chunk(c, 16, 0, to(200), x), chunk(c, 200, 8, to(100), y), chunk(c, 100, 9, 0, z)), want)
	}
}

// TestNowOfSeveralOfOneVersion: the last one as they stand, whatever their values and writers are, wherever their chunks lie.
func TestNowOfSeveralOfOneVersion(t *testing.T) {
	c := two()
	for _, v := range []int{0, 1, 5, 1 << 20} {
		x, y, z := given(v, 8, 30), given(v, 8, 20), given(v, 8, 25)
		x.Data += 5 << 21
		now(t, c, laid(t, c, chunk(c, 16, 0, 0, x, y, z)), pair(8, 25))
		now(t, c, laid(t, c, chunk(c, 16, 0, 0, z, y, x)), pair(8, 30))
		now(t, c, laid(t, c, chunk(c, 16, 0, 0, x, z, y)), pair(8, 20))
		now(t, c, laid(t, c, chunk(c, 16, 0, to(200), x, z), chunk(c, 200, 9, to(100), y), chunk(c, 100, 10, 0, given(9, 7, 1))), pair(7, 1), pair(8, 20))
		now(t, c, laid(t, c, chunk(c, 16, 0, to(200), x), chunk(c, 200, 9, to(100), y), chunk(c, 100, 10, 0, z)), pair(8, 25))
		now(t, c, laid(t, c, chunk(c, 16, 0, 0, x, given(v+1, 8, 3), z)), pair(8, 3))
	}
}

// TestNowOfDeletedKeys: a delete hides what is older, and what stands ahead of it; it is hidden likewise.
func TestNowOfDeletedKeys(t *testing.T) {
	c := two()
	for _, x := range []struct {
		cells []api.Cell
		want  []api.Pair
	}{
		{[]api.Cell{given(3, 8, -1)}, nil},
		{[]api.Cell{given(3, 8, 5), given(4, 8, -1)}, nil},
		{[]api.Cell{given(4, 8, -1), given(3, 8, 5)}, nil},
		{[]api.Cell{given(4, 8, 5), given(4, 8, -1)}, nil},
		{[]api.Cell{given(4, 8, -1), given(4, 8, 5)}, []api.Pair{pair(8, 5)}},
		{[]api.Cell{given(4, 8, -1), given(5, 8, 0)}, []api.Pair{pair(8, 0)}},
		{[]api.Cell{given(5, 8, 0), given(4, 8, -1)}, []api.Pair{pair(8, 0)}},
		{[]api.Cell{given(4, 7, 1), given(4, 8, -1), given(4, 9, 3)}, []api.Pair{pair(7, 1), pair(9, 3)}},
	} {
		now(t, c, laid(t, c, chunk(c, 16, 0, 0, x.cells...)), x.want...)
		a := laid(t, c, chunk(c, 16, 0, to(200), x.cells[0]), chunk(c, 200, 9, 0, x.cells[1:]...))
		now(t, c, a, x.want...)
	}
}

func TestNowTellsEachValue(t *testing.T) {
	c := two()
	for _, val := range []int{0, 1, 2, 1<<20 - 1, 1 << 20} {
		for _, writer := range []int{0, 1, 1002, 7999, 1 << 20} {
			a := laid(t, c, chunk(c, 16, 0, 0, api.Cell{State: 3, Key: 8, Data: writer<<21 + val + 1}, api.Cell{State: 3, Key: 9, Data: writer << 21}))
			now(t, c, a, pair(8, val))
		}
	}
}

// TestNowOfKeysThatAreNone: they are told as they lie, rising with the others.
func TestNowOfKeysThatAreNone(t *testing.T) {
	c := two()
	now(t, c, laid(t, c, chunk(c, 16, 0, to(200), given(1, math.MaxInt, 1), given(1, 64, 2), given(1, -1, 3), given(1, 5, 4)),
		chunk(c, 200, 9, 0, given(1, math.MinInt, 5), given(2, 64, 6), given(1, 0, 7), given(1, 63, -1))),
		pair(math.MinInt, 5), pair(-1, 3), pair(0, 7), pair(5, 4), pair(64, 6), pair(math.MaxInt, 1))
}

// TestNowOfEachKey: rising, however the keys stand.
func TestNowOfEachKey(t *testing.T) {
	c := most()
	for _, step := range []int{1, 5, 27, 37, 63} { // odd: all of the 64 keys come
		l := []api.Chunk{chunk(c, 30, 0, to(200)), chunk(c, 200, 9, to(100)), chunk(c, 100, 30, to(400)), chunk(c, 400, 50, 1)}
		var want []api.Pair
		for i := range 64 {
			key := i * step % 64
			l[i/16].Cells[i%16] = given(i, key, 100+key)
			want = append(want, pair(i, 100+i))
		}
		a := laid(t, c, l...)
		a.Poke(headNext(c), to(30))
		now(t, c, a, want...)
	}
}

// TestNowAsksTheChainAlone: chunks that nobody tells any more hold what was, not what is.
func TestNowAsksTheChainAlone(t *testing.T) {
	c := two()
	a := laid(t, c, chunk(c, 16, 0, to(200), given(9, 1, 1)), chunk(c, 200, 5, 0, given(9, 5, 1)),
		chunk(c, 100, 0, to(300), given(2, 1, 2)), chunk(c, 300, 5, 0, given(2, 5, 2)))
	a.Poke(11, to(100))
	now(t, c, a, pair(1, 2), pair(5, 2))
	a.Poke(100+api.FNext, to(200))
	now(t, c, a, pair(1, 2), pair(5, 1))
}

// TestNowOfAChainThatIsNotWhole: what is told, up to where it breaks or comes round.
func TestNowOfAChainThatIsNotWhole(t *testing.T) {
	c := two()
	for _, w := range []int{to(982), -1, math.MaxInt, to(16), to(200), 0} {
		now(t, c, laid(t, c, chunk(c, 16, 7, to(200), given(1, 1, 1), given(4, 3, 1)), chunk(c, 200, 5, w, given(1, 1, 2), given(3, 3, 9))), pair(1, 2), pair(3, 1))
	}
}

// TestNowOfManyCells: of cells by rule, against a list that is searched from its end.
func TestNowOfManyCells(t *testing.T) {
	for _, c := range confs() {
		for seed := range 60 {
			n := seed
			draw := func(below int) int {
				n = (n*1103515245 + 12345) % (1 << 31)
				return n >> 8 % below
			}
			var l []api.Chunk
			var cells []api.Cell
			for i, at := range []int{30, 600, 400, 200} {
				x := chunk(c, at, i, to([]int{600, 400, 200, 0}[i]))
				for j := range x.Cells {
					if draw(4) > 0 {
						x.Cells[j] = given(draw(4), draw(7)*10, draw(5)-1)
					} else {
						x.Cells[j] = api.Cell{State: draw(3), Key: draw(7) * 10, Data: 77}
					}
				}
				l, cells = append(l, x), append(cells, x.Cells...)
			}
			a := laid(t, c, l...)
			a.Poke(headNext(c), to(30))
			now(t, c, a, searched(cells)...)
		}
	}
}

// searched: of keys from 0 to 60, each version of each of them, from the greatest on and from the last cell on.
func searched(cells []api.Cell) []api.Pair {
	var l []api.Pair
keys:
	for key := range 61 {
		for state := 6; state >= api.Given; state-- {
			for i := len(cells) - 1; i >= 0; i-- {
				if cells[i].State != state || cells[i].Key != key {
					continue
				}
				if val := cells[i].Data&(1<<21-1) - 1; val >= 0 {
					l = append(l, pair(key, val))
				}
				continue keys
			}
		}
	}
	return l
}

// P7.3

// TestWhatAReaderWouldFind: puts in turn, each into the chunk that Of tells, are what Now tells.
func TestWhatAReaderWouldFind(t *testing.T) {
	c := most()
	a := laid(t, c, chunk(c, 30, 0, to(200)), chunk(c, 200, 20, to(100)), chunk(c, 100, 41, 1))
	a.Poke(headNext(c), to(30))
	written, cells := map[int]int{}, map[int]int{}
	for i := range 45 {
		key, val := i*29%64, 1000+i
		if i%7 == 6 {
			key, val = (i-3)*29%64, -1
		}
		at := Of(c, a, key)
		if cells[at] == c.Cap {
			continue
		}
		state := place.State(at, cells[at])
		a.Store(state+1, key)
		a.Store(state+2, i<<21+val+1)
		a.Store(state, 3+i/5)
		cells[at]++
		written[key] = val

		var want []api.Pair
		for k := range 64 {
			if v, has := written[k]; has && v != -1 {
				want = append(want, pair(k, v))
			}
		}
		now(t, c, a, want...)
		is(t, "after a put", c, a, true)
	}
	if len(cells) != 3 || len(written) < 30 {
		t.Fatalf("chunks %v, %d keys", cells, len(written))
	}
}

// What holds everywhere: all calls take all arguments, and hang on nothing but them.

func TestAnswersShareNoMemory(t *testing.T) {
	c := two()
	a := laidThree(t, c)
	places, pairs := All(c, a), Now(c, a)
	otherPlaces, otherPairs := All(c, a), Now(c, a)
	clear(places[:cap(places)])
	clear(pairs[:cap(pairs)])
	if !slices.Equal(otherPlaces, []int{30, 200, 100}) || len(otherPairs) != 6 || otherPairs[0] != pair(0, 7) || otherPairs[5] != pair(63, 5) {
		t.Errorf("answers are changed with others: %v, %v", otherPlaces, otherPairs)
	}
	all(t, c, a, 30, 200, 100)
	for at := range a.Len() {
		a.Poke(at, 0)
	}
	if !slices.Equal(otherPlaces, []int{30, 200, 100}) || otherPairs[5] != pair(63, 5) {
		t.Errorf("answers are changed with the arena: %v, %v", otherPlaces, otherPairs)
	}
}

// TestAnswersHangOnTheArenaAsItIs: not on what it was, or on what another one is.
func TestAnswersHangOnTheArenaAsItIs(t *testing.T) {
	c := two()
	a := laidThree(t, c)
	b := a.Copy()
	all(t, c, a, 30, 200, 100)
	b.Poke(30+api.FNext, to(100))
	all(t, c, b, 30, 100)
	is(t, "a copy", c, b, true)
	of(t, c, b, 19, 30)
	now(t, c, b, pair(0, 7), pair(4, 1), pair(20, 4), pair(63, 5))
	all(t, c, a, 30, 200, 100)
	lay(t, c, a, chunk(c, 30, 0, 0))
	all(t, c, a, 30)
	now(t, c, a)
}

// TestTheArenaTellsWhichWordsAreThere: not the conf, where the arena has fewer words, or more.
func TestTheArenaTellsWhichWordsAreThere(t *testing.T) {
	c := two()
	for _, n := range []int{36, 300, 1001, 20000} {
		a := arena.New(n)
		last := n - size(c)
		a.Poke(headNext(c), to(last))
		a.Poke(last+api.FNext, to(last+1))
		all(t, c, a, last)
		is(t, "one further on", c, a, false)
		a.Poke(last+api.FNext, 0)
		is(t, "the last place", c, a, true)
	}
	for _, n := range []int{1, 11, 12, 34} {
		a := arena.New(n)
		a.Poke(headNext(c), to(16))
		all(t, c, a)
		is(t, "too few words", c, a, false)
		of(t, c, a, 5, 0)
		now(t, c, a)
	}
}

// TestNoCallPanics: also of what is no conf, and of arenas of other sizes, of which nothing else is promised.
func TestNoCallPanics(t *testing.T) {
	numbers := append(noNumbers(), math.MaxInt/3+1, 0, 1, 2, 3, 4, 9, 16, 17, 32, 64, 1000)
	for _, n := range numbers {
		for _, w := range numbers {
			a := arena.New(300)
			for at := range a.Len() {
				a.Poke(at, w+at)
			}
			for _, b := range []*arena.Arena{a, arena.New(n), {}} {
				for _, c := range []api.Conf{{Threads: n, Cap: n, Words: n, Versions: n}, {Threads: 2, Cap: n, Words: 1000, Versions: 100}, {Threads: n, Cap: 4, Words: 1000, Versions: 100}, two()} {
					still(t, "All", b, func() []int { return All(c, b) })
					still(t, "Is", b, func() bool { return Is(c, b) })
					still(t, "Of", b, func() int { return Of(c, b, w) })
					still(t, "Now", b, func() []api.Pair { return Now(c, b) })
				}
			}
		}
	}
}

// TestEachWordMayBeWhateverItIs: a chain of which one word is none that may be.
func TestEachWordMayBeWhateverItIs(t *testing.T) {
	c := two()
	for at := range 260 {
		for _, w := range noNumbers() {
			a := laidThree(t, c)
			a.Poke(at, w)
			places := still(t, "All", a, func() []int { return All(c, a) })
			still(t, "Is", a, func() bool { return Is(c, a) })
			still(t, "Now", a, func() []api.Pair { return Now(c, a) })
			if found := Of(c, a, w); found != 0 && !slices.Contains(places, found) {
				t.Errorf("P7.2: Of %d: %d, not one of %v", w, found, places)
			}
		}
	}
}
