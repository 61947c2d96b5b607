package view

import (
	"errors"
	"math"
	"reflect"
	"slices"
	"testing"

	"armillary/api"
	"armillary/arena"
	"armillary/place"
)

// two threads, chunks of four cells.
func two() api.Conf { return api.Conf{Threads: 2, Cap: 4, Words: 1000, Versions: 100} }

// least and most: the fewest and the most cells.
func least() api.Conf { return api.Conf{Threads: 1, Cap: 3, Words: 31, Versions: 1} }

func most() api.Conf {
	return api.Conf{Threads: 8, Cap: 16, Words: 20000, Versions: 1 << 20}
}

func shapes() []api.Conf {
	l := []api.Conf{two(), least(), most()}
	for cells := 3; cells <= 16; cells++ {
		l = append(l, api.Conf{Threads: 1, Cap: cells, Words: 200, Versions: 5})
	}
	return l
}

func size(c api.Conf) int { return 7 + 3*c.Cap }

func made(t *testing.T, c api.Conf) *arena.Arena {
	t.Helper()
	a, err := place.Make(c)
	if err != nil {
		t.Fatalf("P3.2: Make of %+v: %v", c, err)
	}
	return a
}

// full: an arena with another word at each place, and with some accesses behind it.
func full(words int) *arena.Arena {
	a := arena.New(words)
	a.Store(0, 5)
	a.Swap(0, 5, 6)
	for at := range a.Len() {
		a.Poke(at, -1000-7*at)
	}
	return a
}

// words: the numbers from first on, seven apart.
func words(first, n int) []int {
	l := make([]int, n)
	for i := range l {
		l[i] = first + 7*i
	}
	return l
}

// chunkOf: a chunk that lies at at as these words.
func chunkOf(at int, l []int) api.Chunk {
	x := api.Chunk{At: at, Min: l[0], Count: l[1], Next: l[2], Lead: l[3], Mate: l[4], Repl: l[5], Status: l[6]}
	for i := 7; i < len(l); i += 3 {
		x.Cells = append(x.Cells, api.Cell{State: l[i], Key: l[i+1], Data: l[i+2]})
	}
	return x
}

// empty: a chunk of n cells, all of it zero but its place.
func empty(at, n int) api.Chunk { return chunkOf(at, make([]int, 7+3*n)) }

// copyOf shares no memory with x.
func copyOf(x api.Chunk) api.Chunk {
	x.Cells = slices.Clone(x.Cells)
	return x
}

func wordsOf(a *arena.Arena) []int {
	l := make([]int, a.Len())
	for at := range l {
		l[at] = a.Peek(at)
	}
	return l
}

// untouched: that the arena has these words, and no access more.
func untouched(t *testing.T, what string, a, was *arena.Arena, want []int) {
	t.Helper()
	if a.Accesses() != was.Accesses() || a.Last() != was.Last() {
		t.Fatalf("%s: %d accesses, the last one %+v, not %d, %+v", what, a.Accesses(), a.Last(), was.Accesses(), was.Last())
	}
	for at, w := range wordsOf(a) {
		if w != want[at] {
			t.Fatalf("%s: at %d: %d, not %d", what, at, w, want[at])
		}
	}
}

func checkError(t *testing.T, what string, err error, want api.Errno) {
	t.Helper()
	var told api.Errno
	if !errors.Is(err, want) || !errors.As(err, &told) || told != want {
		t.Errorf("%s: %v, not %v", what, err, want)
	}
}

// reads: that Chunk answers x, and changes nothing.
func reads(t *testing.T, c api.Conf, a *arena.Arena, x api.Chunk) {
	t.Helper()
	was := a.Copy()
	got, err := Chunk(c, a, x.At)
	if err != nil || !reflect.DeepEqual(got, x) {
		t.Fatalf("P6.1: Chunk(%+v, .., %d): %+v, %v, not %+v", c, x.At, got, err, x)
	}
	untouched(t, "P6.1: Chunk", a, was, wordsOf(was))
}

// lies: that Lay lays x, changes no other word, and that Chunk reads it again.
func lies(t *testing.T, c api.Conf, a *arena.Arena, x api.Chunk, l []int) {
	t.Helper()
	was := a.Copy()
	want := wordsOf(a)
	copy(want[x.At:], l)
	if err := Lay(c, a, x); err != nil {
		t.Fatalf("P6.1: Lay(%+v, .., %+v): %v", c, x, err)
	}
	untouched(t, "P6.1: Lay", a, was, want)
	reads(t, c, a, x)
}

// refusedAt: that both answer ErrPlace at at, nothing beside it, and change nothing.
func refusedAt(t *testing.T, c api.Conf, a *arena.Arena, at int) {
	t.Helper()
	was := a.Copy()
	x, err := Chunk(c, a, at)
	checkError(t, "P6.1: Chunk", err, api.ErrPlace)
	if !reflect.DeepEqual(x, api.Chunk{}) {
		t.Errorf("P6.1: Chunk at %d of %d words: beside ErrPlace %+v", at, a.Len(), x)
	}
	checkError(t, "P6.1: Lay", Lay(c, a, chunkOf(at, words(1, size(c)))), api.ErrPlace)
	untouched(t, "P6.1: refused", a, was, wordsOf(was))
}

// P6.1: Chunk

func TestTheFirstChunkOfANewArenaIsEmpty(t *testing.T) {
	for _, c := range shapes() {
		a := made(t, c)
		reads(t, c, a, empty(place.First(c), c.Cap))
	}
}

func TestChunkReadsEachWordAsWhatItIs(t *testing.T) {
	a := arena.New(1000)
	for i, w := range []int{1, 2, 3, 4, 5, 6, 7, 5, 8, 9, 1, 70, 60, 2, 50, 40, 3, 90, 77} {
		a.Poke(300+i, w)
	}
	reads(t, two(), a, api.Chunk{
		At: 300, Min: 1, Count: 2, Next: 3, Lead: 4, Mate: 5, Repl: 6, Status: 7,
		Cells: []api.Cell{{State: 5, Key: 8, Data: 9}, {State: 1, Key: 70, Data: 60}, {State: 2, Key: 50, Data: 40}, {State: 3, Key: 90, Data: 77}},
	})
}

func TestChunkReadsOneWordAtItsPlaceAlone(t *testing.T) {
	for _, c := range shapes() {
		for i := range size(c) {
			for _, w := range []int{1, -1, math.MinInt, math.MaxInt} {
				a := arena.New(200)
				a.Poke(60+i, w)
				l := make([]int, size(c))
				l[i] = w
				reads(t, c, a, chunkOf(60, l))
			}
		}
	}
}

func TestHeadLiesAsAChunkToo(t *testing.T) {
	c := two()
	x := empty(9, 4) // its cells are the words of the first chunk
	x.Min, x.Next = -1, 32
	reads(t, c, made(t, c), x)
}

// TestChunkWhereverItsWordsAre: at each place of some arenas, of as many words as a conf has, of fewer, of more.
func TestChunkWhereverItsWordsAre(t *testing.T) {
	for _, c := range shapes() {
		for _, n := range []int{1, 2, size(c) - 1, size(c), size(c) + 1, 77, 300} {
			a := full(n)
			for at := -3; at <= n+3; at++ {
				if at < 0 || at+size(c) > n {
					refusedAt(t, c, a, at)
				} else {
					reads(t, c, a, chunkOf(at, wordsOf(a)[at:at+size(c)]))
				}
			}
		}
	}
}

func TestChunkAtTheLastPlaceAndOneFurtherOn(t *testing.T) {
	for _, x := range []struct {
		c    api.Conf
		last int
	}{{least(), 15}, {two(), 981}, {most(), 19945}} {
		a := made(t, x.c)
		lies(t, x.c, a, chunkOf(x.last, words(11, size(x.c))), words(11, size(x.c)))
		refusedAt(t, x.c, a, x.last+1)
		if a.Len() != x.c.Words || a.Peek(a.Len()-1) != 11+7*(size(x.c)-1) {
			t.Errorf("P6.1: of %+v: the last word: %d", x.c, a.Peek(a.Len()-1))
		}
	}
}

func TestNoChunkWhereNoWordsAre(t *testing.T) {
	for _, c := range shapes() {
		a := full(c.Words)
		for _, at := range []int{
			-1, -2, -size(c), -c.Words, -1 << 32, -1 << 40, math.MinInt, math.MinInt + 1, math.MinInt + size(c),
			c.Words - size(c) + 1, c.Words - 1, c.Words, c.Words + 1, 20000, 1 << 32, 1 << 40, 1 << 62,
			math.MaxInt - c.Words, math.MaxInt - size(c), math.MaxInt - size(c) + 1, math.MaxInt - 1, math.MaxInt,
		} {
			refusedAt(t, c, a, at)
		}
	}
}

func TestNoChunkOfAnArenaWithoutWords(t *testing.T) {
	for _, at := range []int{-1, 0, 1} {
		refusedAt(t, two(), &arena.Arena{}, at)
	}
}

func TestChunksShareNoMemory(t *testing.T) {
	c, a := two(), full(1000)
	was := a.Copy()
	want := chunkOf(35, wordsOf(a)[35:54])
	x, _ := Chunk(c, a, 35)
	y, _ := Chunk(c, a, 35)
	x.Cells = append(x.Cells, api.Cell{State: 9})
	for i := range x.Cells {
		x.Cells[i] = api.Cell{State: 1, Key: 1, Data: 1}
	}
	if !reflect.DeepEqual(y, want) {
		t.Errorf("P6.1: one chunk is changed with another: %+v", y)
	}
	untouched(t, "P6.1: a chunk that is changed", a, was, wordsOf(was))
	reads(t, c, a, want)
}

func TestAChunkThatWasReadStaysAsItWas(t *testing.T) {
	c, a := two(), full(1000)
	want := chunkOf(35, wordsOf(a)[35:54])
	x, _ := Chunk(c, a, 35)
	for at := range a.Len() {
		a.Store(at, 5)
	}
	if !reflect.DeepEqual(x, want) {
		t.Errorf("P6.1: a chunk is changed with the arena: %+v", x)
	}
}

// P6.1: Lay

func TestLayLaysEachPartAtItsPlace(t *testing.T) {
	a := arena.New(1000)
	lies(t, two(), a, api.Chunk{
		At: 300, Min: 1, Count: 2, Next: 3, Lead: 4, Mate: 5, Repl: 6, Status: 7,
		Cells: []api.Cell{{State: 5, Key: 8, Data: 9}, {State: 1, Key: 70, Data: 60}, {State: 2, Key: 50, Data: 40}, {State: 3, Key: 90, Data: 77}},
	}, []int{1, 2, 3, 4, 5, 6, 7, 5, 8, 9, 1, 70, 60, 2, 50, 40, 3, 90, 77})
}

func TestLayLaysOnePartAlone(t *testing.T) {
	for _, c := range shapes() {
		for i := range size(c) {
			for _, w := range []int{1, -1, math.MinInt, math.MaxInt} {
				l := make([]int, size(c))
				l[i] = w
				lies(t, c, full(200), chunkOf(60, l), l)
			}
		}
	}
}

func TestLayWhereverItsWordsAre(t *testing.T) {
	for _, c := range shapes() {
		for at := 0; at+size(c) <= 120; at++ {
			lies(t, c, full(120), chunkOf(at, words(3, size(c))), words(3, size(c)))
		}
	}
}

func TestLayLaysOverWhatLay(t *testing.T) {
	c, a := two(), made(t, two())
	lies(t, c, a, chunkOf(35, words(1, 19)), words(1, 19))
	lies(t, c, a, chunkOf(54, words(1000, 19)), words(1000, 19))
	reads(t, c, a, chunkOf(35, words(1, 19)))
	lies(t, c, a, chunkOf(35, words(2000, 19)), words(2000, 19))
	reads(t, c, a, chunkOf(54, words(1000, 19)))
	lies(t, c, a, empty(54, 4), make([]int, 19))
	reads(t, c, a, chunkOf(35, words(2000, 19)))
}

// TestLayWithACellTooFewOrTooMany: also where there is no such place: ErrForm comes first.
func TestLayWithACellTooFewOrTooMany(t *testing.T) {
	for _, c := range shapes() {
		a := full(c.Words)
		was := a.Copy()
		for _, cells := range []int{0, 1, c.Cap - 1, c.Cap + 1, c.Cap + 2, 2 * c.Cap, 100} {
			for _, at := range []int{place.First(c), 0, c.Words - size(c), c.Words - size(c) + 1, c.Words, -1, math.MinInt, math.MaxInt} {
				checkError(t, "P6.1: Lay", Lay(c, a, chunkOf(at, words(1, 7+3*cells))), api.ErrForm)
			}
		}
		untouched(t, "P6.1: refused", a, was, wordsOf(was))
		for _, cells := range [][]api.Cell{nil, {}} {
			checkError(t, "P6.1: Lay", Lay(c, a, api.Chunk{At: place.First(c), Cells: cells}), api.ErrForm)
		}
		untouched(t, "P6.1: refused", a, was, wordsOf(was))
	}
}

// TestLayNeitherChangesNorKeepsCells: the spare room behind them included.
func TestLayNeitherChangesNorKeepsCells(t *testing.T) {
	c, a := two(), arena.New(1000)
	room := chunkOf(35, words(1, 7+3*10)).Cells
	x := chunkOf(35, words(1, 19))
	x.Cells = room[:4]
	if err := Lay(c, a, x); err != nil {
		t.Fatalf("P6.1: Lay: %v", err)
	}
	if !reflect.DeepEqual(room, chunkOf(35, words(1, 7+3*10)).Cells) {
		t.Errorf("P6.1: Lay changed the cells: %+v", room)
	}
	clear(room)
	reads(t, c, a, chunkOf(35, words(1, 19)))
	a.Poke(42, 99)
	if room[0] != (api.Cell{}) {
		t.Errorf("P6.1: Lay kept the cells: %+v", room)
	}
}

// P6.1: Same

func TestSameIsAllParts(t *testing.T) {
	for _, n := range []int{0, 1, 2, 3, 4, 16, 17} {
		for _, first := range []int{-50, 0, 1, math.MaxInt} {
			x := chunkOf(first, words(first, 7+3*n))
			if !Same(x, x) || !Same(x, copyOf(x)) {
				t.Errorf("P6.1: %+v isn't the same as itself", x)
			}
		}
	}
}

// parts: each part of a chunk alone is another one.
func parts(n int) map[string]func(x *api.Chunk) {
	l := map[string]func(x *api.Chunk){
		"At":     func(x *api.Chunk) { x.At++ },
		"Min":    func(x *api.Chunk) { x.Min++ },
		"Count":  func(x *api.Chunk) { x.Count++ },
		"Next":   func(x *api.Chunk) { x.Next++ },
		"Lead":   func(x *api.Chunk) { x.Lead++ },
		"Mate":   func(x *api.Chunk) { x.Mate++ },
		"Repl":   func(x *api.Chunk) { x.Repl++ },
		"Status": func(x *api.Chunk) { x.Status++ },
		"more":   func(x *api.Chunk) { x.Cells = append(x.Cells, api.Cell{}) },
		"fewer":  func(x *api.Chunk) { x.Cells = x.Cells[:n-1] },
		"none":   func(x *api.Chunk) { x.Cells = nil },
		"order":  func(x *api.Chunk) { slices.Reverse(x.Cells) },
	}
	for i := range n {
		cell := "cell " + string(rune('a'+i)) + "'s "
		l[cell+"State"] = func(x *api.Chunk) { x.Cells[i].State++ }
		l[cell+"Key"] = func(x *api.Chunk) { x.Cells[i].Key++ }
		l[cell+"Data"] = func(x *api.Chunk) { x.Cells[i].Data++ }
	}
	return l
}

// TestChunksThatDifferInOnePartAlone: from one that has them all, and from each other.
func TestChunksThatDifferInOnePartAlone(t *testing.T) {
	for _, n := range []int{3, 4, 16} {
		whole := chunkOf(3, words(100, 7+3*n))
		seen := map[string]api.Chunk{"nothing": whole}
		for what, spoil := range parts(n) {
			x := copyOf(whole)
			spoil(&x)
			for other, y := range seen {
				if Same(x, y) || Same(y, x) {
					t.Errorf("P6.1: %d cells: another %s is the same as another %s", n, what, other)
				}
			}
			if !Same(x, copyOf(x)) {
				t.Errorf("P6.1: %d cells: another %s isn't the same as itself", n, what)
			}
			seen[what] = x
		}
	}
}

func TestSameTellsPartsOfOneValueApart(t *testing.T) {
	var l []api.Chunk
	for i := range 20 { // the place, and each word of a chunk of four cells
		w := make([]int, 20)
		w[i] = 1
		l = append(l, chunkOf(w[0], w[1:]))
	}
	for i, x := range l {
		for j, y := range l {
			if Same(x, y) != (i == j) {
				t.Errorf("P6.1: same: %+v, %+v: %v", x, y, Same(x, y))
			}
		}
	}
}

func TestSameOfNilAndEmptyCells(t *testing.T) {
	a, b := api.Chunk{At: 5}, api.Chunk{At: 5, Cells: []api.Cell{}}
	c := api.Chunk{At: 5, Cells: make([]api.Cell, 3)[:0]}
	for _, x := range []api.Chunk{a, b, c} {
		for _, y := range []api.Chunk{a, b, c} {
			if !Same(x, y) {
				t.Errorf("P6.1: not the same: %#v, %#v", x, y)
			}
		}
		if Same(x, api.Chunk{At: 5, Cells: make([]api.Cell, 1)}) || Same(api.Chunk{At: 5, Cells: make([]api.Cell, 1)}, x) {
			t.Errorf("P6.1: an empty cell is a cell")
		}
	}
}

func TestSameLooksAtNoSpareRoom(t *testing.T) {
	room := chunkOf(3, words(100, 19)).Cells
	a, b := api.Chunk{Cells: room[:2]}, api.Chunk{Cells: room[:2:2]}
	if !Same(a, b) || Same(a, api.Chunk{Cells: room}) || !reflect.DeepEqual(room, chunkOf(3, words(100, 19)).Cells) {
		t.Errorf("P6.1: same, with spare room")
	}
}

// P6.2

func items(t *testing.T, x api.Chunk, want ...api.Item) {
	t.Helper()
	was := copyOf(x)
	if l := Items(x); !slices.Equal(l, want) {
		t.Errorf("P6.2: Items(%+v): %v, not %v", x, l, want)
	}
	if !reflect.DeepEqual(x.Cells, was.Cells) {
		t.Errorf("P6.2: Items changed %+v to %+v", was, x)
	}
}

func TestItemsOfCellsOfEachState(t *testing.T) {
	for _, x := range []struct{ state, version int }{
		{math.MinInt, -1}, {-3, -1}, {-1, -1}, {api.Empty, -1}, {api.Posted, -1}, {api.Dead, -1},
		{api.Given, 0}, {4, 1}, {5, 2}, {100, 97}, {api.MaxVersions + 2, api.MaxVersions - 1}, {api.MaxVersions + 3, api.MaxVersions}, {1<<24 - 1, 1<<24 - 4},
	} {
		chunk := api.Chunk{At: 16, Count: 1, Cells: []api.Cell{{State: x.state, Key: 8, Data: 9}}}
		if x.version < 0 {
			items(t, chunk)
		} else {
			items(t, chunk, api.Item{Key: 8, Version: x.version, Data: 9})
		}
	}
}

// TestItemsOfOneCellAmongOthers: each cell alone, of each number of cells, has a version.
func TestItemsOfOneCellAmongOthers(t *testing.T) {
	for n := 1; n <= 17; n++ {
		for i := range n {
			x := empty(16, n)
			for j := range x.Cells {
				x.Cells[j] = api.Cell{State: j % 3, Key: 50, Data: 60} // empty, posted, dead
			}
			items(t, x)
			x.Cells[i] = api.Cell{State: 10 + i, Key: 20 + i, Data: 30 + i}
			items(t, x, api.Item{Key: 20 + i, Version: 7 + i, Data: 30 + i})
		}
	}
}

func TestItemsComeAsTheyStand(t *testing.T) {
	items(t, api.Chunk{Count: 9, Cells: []api.Cell{
		{State: 9, Key: 40, Data: 3}, {State: 4, Key: 40, Data: 5}, {State: 0, Key: 7, Data: 7}, {State: 9, Key: 2, Data: 1},
		{State: 9, Key: 40, Data: 3}, {State: 9, Key: 40, Data: 3}, {State: 2, Key: 1, Data: 1}, {State: 9, Key: 40, Data: 2}, {State: 3},
	}}, api.Item{Key: 40, Version: 6, Data: 3}, api.Item{Key: 40, Version: 1, Data: 5}, api.Item{Key: 2, Version: 6, Data: 1},
		api.Item{Key: 40, Version: 6, Data: 3}, api.Item{Key: 40, Version: 6, Data: 3}, api.Item{Key: 40, Version: 6, Data: 2}, api.Item{})
}

func TestItemsAreTheKeysAndDataOfTheirCells(t *testing.T) {
	for _, n := range []int{math.MinInt, -1, 0, 1, 63, 64, 1 << 41, math.MaxInt} {
		items(t, api.Chunk{Cells: []api.Cell{{State: 3, Key: n, Data: 5}, {State: 3, Key: 5, Data: n}}},
			api.Item{Key: n, Data: 5}, api.Item{Key: 5, Data: n})
	}
}

// TestItemsHangOnTheCellsAlone: not on how many of them are counted, nor on whether the chunk is frozen or replaced.
func TestItemsHangOnTheCellsAlone(t *testing.T) {
	for _, n := range []int{math.MinInt, -1, 0, 1, 2, 3, 4, 17, math.MaxInt} {
		for i := range 8 {
			l := words(0, 20)
			clear(l[:8])
			l[i] = n
			x := chunkOf(l[0], append(l[1:8], 6, 1, 2, 1, 3, 4, 7, 5, 6))
			items(t, x, api.Item{Key: 1, Version: 3, Data: 2}, api.Item{Key: 5, Version: 4, Data: 6})
		}
	}
}

func TestItemsOfNoCells(t *testing.T) {
	left := []api.Cell{{State: 9, Key: 9, Data: 9}}
	for _, cells := range [][]api.Cell{nil, {}, make([]api.Cell, 4), left[:0]} {
		items(t, api.Chunk{At: 5, Count: 4, Cells: cells})
	}
}

func TestItemsShareNoMemory(t *testing.T) {
	x := api.Chunk{Cells: []api.Cell{{State: 3, Key: 1, Data: 1}, {State: 1}, {State: 4, Key: 2, Data: 2}, {State: 5, Key: 3, Data: 3}}}
	l, m := Items(x), Items(x)
	l = append(l, api.Item{Key: 9})
	clear(l)
	clear(x.Cells)
	want := []api.Item{{Key: 1, Data: 1}, {Key: 2, Version: 1, Data: 2}, {Key: 3, Version: 2, Data: 3}}
	if !slices.Equal(m, want) {
		t.Errorf("P6.2: items are changed with others, or with the cells: %v", m)
	}
}

// P6.3

// TestWordsAreReadAsWhatTheyMean: what accesses did to the first chunk is told by its parts and items.
func TestWordsAreReadAsWhatTheyMean(t *testing.T) {
	c, a := two(), made(t, two())
	x, err := Chunk(c, a, place.First(c))
	if err != nil || !Same(x, empty(16, 4)) || len(Items(x)) != 0 {
		t.Fatalf("P6.3: the first chunk: %+v, %v", x, err)
	}
	// Two cells are taken, one of them is posted and given version 5, the other one is posted; a third is dead.
	a.Add(16+api.FCount, 2)
	a.Store(place.State(16, 0)+1, 7)
	a.Store(place.State(16, 0)+2, 70)
	a.Swap(place.State(16, 0), api.Empty, api.Posted)
	a.Swap(place.State(16, 0), api.Posted, 8)
	a.Store(place.State(16, 1)+1, 9)
	a.Swap(place.State(16, 1), api.Empty, api.Posted)
	a.Swap(place.State(16, 2), api.Empty, api.Dead)
	a.Swap(16+api.FNext, 0, 1)
	a.Store(16+api.FStatus, 1)
	want := api.Chunk{At: 16, Count: 2, Next: 1, Status: 1, Cells: []api.Cell{{State: 8, Key: 7, Data: 70}, {State: 1, Key: 9}, {State: 2}, {}}}
	reads(t, c, a, want)
	x, err = Chunk(c, a, 16)
	if err != nil || !Same(x, want) || !slices.Equal(Items(x), []api.Item{{Key: 7, Version: 5, Data: 70}}) {
		t.Errorf("P6.3: the first chunk: %+v, %v, %v", x, err, Items(x))
	}
}

// TestWhatIsReadIsLaidAgain: from each place to another arena's same place.
func TestWhatIsReadIsLaidAgain(t *testing.T) {
	for _, c := range shapes() {
		a := full(120)
		for at := 0; at+size(c) <= 120; at++ {
			b := arena.New(120)
			x, err := Chunk(c, a, at)
			if err != nil {
				t.Fatalf("P6.3: Chunk at %d: %v", at, err)
			}
			lies(t, c, b, x, wordsOf(a)[at:at+size(c)])
			y, err := Chunk(c, b, at)
			if err != nil || !Same(x, y) {
				t.Fatalf("P6.3: at %d: %+v, %v, not %+v", at, y, err, x)
			}
		}
	}
}

// What holds everywhere: all calls take all arguments, and hang on nothing but them.

// TestNoCallPanics: also of what is no conf, of which nothing else is promised.
func TestNoCallPanics(t *testing.T) {
	numbers := []int{math.MinInt, math.MinInt + 1, -1 << 62, -1 << 40, -20000, -4, -3, -2, -1, 0, 1, 2, 3, 4, 16, 17, 64, 1000, 20000, 20001, 1 << 40, 1 << 61, 1 << 62, math.MaxInt/3 + 1, math.MaxInt - 1, math.MaxInt}
	all := func() []api.Chunk {
		var l []api.Chunk
		for _, n := range numbers {
			for _, at := range numbers {
				for _, c := range []api.Conf{{Threads: n, Cap: n, Words: n, Versions: n}, {Threads: 2, Cap: n, Words: 1000, Versions: 100}, two()} {
					a := full(100)
					x, err := Chunk(c, a, at)
					if err != nil {
						checkError(t, "P6.1: Chunk", err, api.ErrPlace)
					}
					l = append(l, x)
					for _, cells := range []int{0, 1, 4} {
						y := chunkOf(at, words(n, 7+3*cells))
						if err := Lay(c, a, y); err != nil && !errors.Is(err, api.ErrForm) {
							checkError(t, "P6.1: Lay", err, api.ErrPlace)
						}
						Items(y)
						Same(x, y)
					}
				}
			}
		}
		return l
	}
	first, second := all(), all()
	for i := range first {
		if !reflect.DeepEqual(first[i], second[i]) {
			t.Errorf("answer %d: %+v, then %+v", i, first[i], second[i])
		}
	}
}

// TestAnswersHangOnTheArenaAndItsCellsAlone: not on the conf's other parts.
func TestAnswersHangOnTheArenaAndItsCellsAlone(t *testing.T) {
	a := full(1000)
	for _, c := range []api.Conf{{Threads: 1, Cap: 4, Words: 40, Versions: 1}, {Threads: 2, Cap: 4, Words: 35, Versions: 1 << 20}, {Threads: 2, Cap: 4, Words: 20000, Versions: 7}} {
		reads(t, c, a, chunkOf(981, wordsOf(a)[981:]))
		refusedAt(t, c, a, 982)
		lies(t, c, a.Copy(), chunkOf(981, words(1, 19)), words(1, 19))
	}
}
