package look

import (
	"fmt"
	"maps"
	"math"
	"slices"
	"testing"

	"armillary/api"
	"armillary/arena"
	"armillary/place"
)

// two threads, chunks of four cells: the first chunk is at 16, its FCount at 17, its cells' states at 23, 26, 29, 32.
func two() api.Conf { return api.Conf{Threads: 2, Cap: 4, Words: 300, Versions: 100} }

// confs: each number of threads, each number of cells that may be.
func confs() []api.Conf {
	var l []api.Conf
	for threads := 1; threads <= api.MaxThreads; threads++ {
		for cells := threads + 2; cells <= api.MaxCap; cells++ {
			l = append(l, api.Conf{Threads: threads, Cap: cells, Words: 300, Versions: 1})
		}
	}
	return l
}

// first: where the document lays the first chunk.
func first(c api.Conf) int { return 3 + c.Threads + 4 + 7 }

// greatest version that a word holds.
const greatest = 1<<24 - 4

// noNumbers: of places, keys, versions and words, those that are none.
func noNumbers() []int {
	return []int{math.MinInt, math.MinInt + 1, -1 << 62, -1 << 40, -20000, -64, -17, -16, -7, -6, -2, -1, 64, 20000, 20001, 1 << 40, 1 << 62, math.MaxInt - 6, math.MaxInt - 1, math.MaxInt}
}

func made(t *testing.T, c api.Conf) *arena.Arena {
	t.Helper()
	a, err := place.Make(c)
	if err != nil {
		t.Fatalf("P3.2: Make of %+v: %v", c, err)
	}
	return a
}

// laid: an arena with this clock and with a chunk at 16, and with some accesses behind it. What a look doesn't ask for is junk.
func laid(t *testing.T, clock, count int, cells ...api.Cell) *arena.Arena {
	t.Helper()
	a := made(t, two())
	a.Store(0, 5)
	a.Swap(0, 5, 6)
	a.Poke(api.AClock, clock)
	lay(a, 16, count, cells...)
	return a
}

// lay: a chunk; where no cell is told one stands that anybody would take for an item.
func lay(a *arena.Arena, at, count int, cells ...api.Cell) {
	for f := range 7 + 3*4 {
		a.Poke(at+f, 3)
	}
	a.Poke(at+api.FCount, count)
	for i, x := range cells {
		a.Poke(at+7+3*i, x.State)
		a.Poke(at+7+3*i+1, x.Key)
		a.Poke(at+7+3*i+2, x.Data)
	}
}

// given, posted, dead: cells of that key.
func given(version, key, data int) api.Cell {
	return api.Cell{State: 3 + version, Key: key, Data: data}
}

func posted(key, data int) api.Cell { return api.Cell{State: 1, Key: key, Data: data} }

func dead(key, data int) api.Cell { return api.Cell{State: 2, Key: key, Data: data} }

func item(key, version, data int) api.Item {
	return api.Item{Key: key, Version: version, Data: data}
}

func load(at, word int) api.Access { return api.Access{Kind: api.KLoad, At: at, Old: word, New: word} }

// swap: one that is done; vain: one that found that word.
func swap(at, old, word int) api.Access {
	return api.Access{Kind: api.KSwap, At: at, Old: old, New: word, Ok: true}
}

func vain(at, word int) api.Access {
	return api.Access{Kind: api.KSwap, At: at, Old: word, New: word}
}

// loads: of these places these words.
func loads(placesAndWords ...int) []api.Access {
	var l []api.Access
	for i := 0; i < len(placesAndWords); i += 2 {
		l = append(l, load(placesAndWords[i], placesAndWords[i+1]))
	}
	return l
}

func then(parts ...[]api.Access) []api.Access { return slices.Concat(parts...) }

func words(a *arena.Arena) []int {
	l := make([]int, a.Len())
	for at := range l {
		l[at] = a.Peek(at)
	}
	return l
}

// step: one that isn't behind the end: its access, and whether it has ended. It is one access, a load or a swap, and changes no word but the one that it swaps.
func step(t *testing.T, l *Look, a *arena.Arena) (api.Access, bool) {
	t.Helper()
	want, n := words(a), a.Accesses()
	over := l.Step(a)
	last := a.Last()
	if a.Accesses() != n+1 || last.Kind != api.KLoad && last.Kind != api.KSwap {
		t.Fatalf("P11.1: a step of %d accesses, the last one %+v", a.Accesses()-n, last)
	}
	if last.Ok {
		want[last.At] = last.New
	}
	if !slices.Equal(words(a), want) {
		t.Fatalf("P11.1: %+v changes another word", last)
	}
	return last, over
}

// behind its end: no access, nothing changed, true, whatever the words are by now.
func behind(t *testing.T, l *Look, a *arena.Arena) {
	t.Helper()
	items, other := l.Items(), a.Copy()
	for at := range other.Len() {
		other.Poke(at, 1)
	}
	for _, b := range []*arena.Arena{a, a, other, arena.New(1), a} {
		was, n, last := words(b), b.Accesses(), b.Last()
		if !l.Step(b) {
			t.Error("P11.1: behind its end Step tells false")
		}
		if b.Accesses() != n || b.Last() != last || !slices.Equal(words(b), was) {
			t.Errorf("P11.1: behind its end Step does something: %+v", b.Last())
		}
		if !slices.Equal(l.Items(), items) {
			t.Errorf("P11.2: behind its end Items are %v, were %v", l.Items(), items)
		}
	}
}

// looked: l to its end: all its accesses.
func looked(t *testing.T, l *Look, a *arena.Arena) []api.Access {
	t.Helper()
	var done []api.Access
	for range 1 + 6*api.MaxCap {
		x, over := step(t, l, a)
		done = append(done, x)
		if over {
			behind(t, l, a)
			return done
		}
	}
	t.Fatal("P11.1: it doesn't end")
	return nil
}

// finds these items by these accesses; likewise when it is done again, as it was.
func finds(t *testing.T, what string, l func() *Look, a *arena.Arena, items []api.Item, want []api.Access) {
	t.Helper()
	for range 2 {
		x := l()
		if got := looked(t, x, a.Copy()); !slices.Equal(got, want) || !slices.Equal(x.Items(), items) {
			t.Errorf("%s: %v, %v, not %v, %v", what, got, x.Items(), want, items)
		}
	}
}

// of: looks in the chunk at 16.
func of(lo, hi, most int) func() *Look {
	return func() *Look { return New(two(), 16, lo, hi, most) }
}

// asked: what a look is made of.
type asked struct{ chunk, lo, hi, most int }

func (x asked) look(c api.Conf) *Look { return New(c, x.chunk, x.lo, x.hi, x.most) }

// byKey: the items of a map, keys rising.
func byKey(m map[int]api.Item) []api.Item {
	var l []api.Item
	for _, key := range slices.Sorted(maps.Keys(m)) {
		l = append(l, m[key])
	}
	return l
}

// lines: P11.1's, told once more.
func lines(c api.Conf, x asked, load func(at int) int, swap func(at, old, word int)) []api.Item {
	items := map[int]api.Item{}
	n := load(x.chunk + 1)
	for i := 0; i < n && i < c.Cap; i++ {
		at := x.chunk + 7 + 3*i
		s := load(at)
		if s <= 0 || s == 2 {
			continue
		}
		k := load(at + 1)
		if k < x.lo || x.hi < k {
			continue
		}
		if s == 1 {
			swap(at, 1, 3+min(max(load(1), 0), greatest))
			if s = load(at); s < 3 {
				continue
			}
		}
		if old, ok := items[k]; s-3 <= x.most && (!ok || old.Version <= s-3) {
			items[k] = item(k, s-3, load(at+2))
		}
	}
	return byKey(items)
}

// P11.1: the lines

func TestANewArena(t *testing.T) {
	for _, c := range confs() {
		at := first(c)
		l := func() *Look { return New(c, at, 0, api.MaxKey, 100) }
		finds(t, fmt.Sprintf("P11.1: %+v", c), l, made(t, c), nil, loads(at+1, 0))
	}
}

// TestEachLine: what each one does, and which one comes behind it.
func TestEachLine(t *testing.T) {
	for _, x := range []struct {
		what  string
		cells []api.Cell
		want  []api.Access
		items []api.Item
	}{
		{"2: the one cell is empty", []api.Cell{{State: 0, Key: 5, Data: 7}}, loads(17, 1, 23, 0), nil},
		{"dead", []api.Cell{dead(5, 7)}, loads(17, 1, 23, 2), nil},
		{"below 0", []api.Cell{{State: -1, Key: 5, Data: 7}}, loads(17, 1, 23, -1), nil},
		{"3: its key is beyond, given", []api.Cell{given(1, 9, 7)}, loads(17, 1, 23, 4, 24, 9), nil},
		{"its key is beyond, posted", []api.Cell{posted(9, 7)}, loads(17, 1, 23, 1, 24, 9), nil},
		{"3, 7: given", []api.Cell{given(1, 5, 7)}, loads(17, 1, 23, 4, 24, 5, 25, 7), []api.Item{item(5, 1, 7)}},
		{"4, 5, 6, 7: posted", []api.Cell{posted(5, 7)}, then(loads(17, 1, 23, 1, 24, 5, 1, 6), []api.Access{swap(23, 1, 9)}, loads(23, 9, 25, 7)), []api.Item{item(5, 6, 7)}},
		{"7: its version is above most", []api.Cell{given(7, 5, 7)}, loads(17, 1, 23, 10, 24, 5), nil},
		{"the next cell behind each", []api.Cell{{State: 0, Key: 5, Data: 7}, dead(5, 8), posted(9, 9), given(3, 5, 10)},
			loads(17, 4, 23, 0, 26, 2, 29, 1, 30, 9, 32, 6, 33, 5, 34, 10), []api.Item{item(5, 3, 10)}},
		{"the next cell behind each", []api.Cell{given(3, 5, 7), given(2, 5, 8), {State: -9, Key: 5, Data: 9}, given(3, 4, 10)},
			loads(17, 4, 23, 6, 24, 5, 25, 7, 26, 5, 27, 5, 29, -9, 32, 6, 33, 4, 34, 10), []api.Item{item(4, 3, 10), item(5, 3, 7)}},
		{"the next cell behind each", []api.Cell{given(7, 5, 7), given(9, 9, 8), posted(5, 9), {}},
			then(loads(17, 4, 23, 10, 24, 5, 26, 12, 27, 9, 29, 1, 30, 5, 1, 6), []api.Access{swap(29, 1, 9)}, loads(29, 9, 31, 9, 32, 0)), []api.Item{item(5, 6, 9)}},
		{"all are posted", []api.Cell{posted(5, 7), posted(4, 8), posted(5, 9), posted(3, 10)},
			then(loads(17, 4, 23, 1, 24, 5, 1, 6), []api.Access{swap(23, 1, 9)}, loads(23, 9, 25, 7),
				loads(26, 1, 27, 4, 1, 6), []api.Access{swap(26, 1, 9)}, loads(26, 9, 28, 8),
				loads(29, 1, 30, 5, 1, 6), []api.Access{swap(29, 1, 9)}, loads(29, 9, 31, 9),
				loads(32, 1, 33, 3, 1, 6), []api.Access{swap(32, 1, 9)}, loads(32, 9, 34, 10)),
			[]api.Item{item(3, 6, 10), item(4, 6, 8), item(5, 6, 9)}},
	} {
		finds(t, "P11.1: "+x.what, of(2, 8, 6), laid(t, 6, len(x.cells), x.cells...), x.items, x.want)
	}
}

// TestCounts: as many cells are looked at as the count tells, none of one below 0, no more than a chunk has.
func TestCounts(t *testing.T) {
	for _, c := range confs() {
		for _, count := range append(noNumbers(), 0, 1, 2, 3, c.Cap-1, c.Cap, c.Cap+1, 100) {
			a, at := made(t, c), 40
			a.Poke(at+1, count)
			var items []api.Item
			want := loads(at+1, count)
			for i := range c.Cap + 1 {
				x := at + 7 + 3*i
				a.Poke(x, 4)
				a.Poke(x+1, i)
				a.Poke(x+2, 100+i)
				if i < count && i < c.Cap {
					items = append(items, item(i, 1, 100+i))
					want = append(want, loads(x, 4, x+1, i, x+2, 100+i)...)
				}
			}
			l := func() *Look { return New(c, at, 0, api.MaxKey, 9) }
			finds(t, fmt.Sprintf("P11.1: %+v, count %d", c, count), l, a, items, want)
		}
	}
}

// TestStates: each one by itself; what is below Given, and isn't posted, is passed by.
func TestStates(t *testing.T) {
	for _, s := range append(noNumbers(), 0, 2, 3, 4, 5, 102, 103, 104, greatest+2, greatest+3, greatest+4) {
		a := laid(t, 6, 1, api.Cell{State: s, Key: 5, Data: 7})
		want, items := loads(17, 1, 23, s), []api.Item(nil)
		if s > 2 {
			want = append(want, load(24, 5))
		}
		if s > 2 && s-3 <= 100 {
			want, items = append(want, load(25, 7)), []api.Item{item(5, s-3, 7)}
		}
		finds(t, fmt.Sprint("P11.1: state ", s), of(5, 5, 100), a, items, want)
		if s > 2 {
			finds(t, fmt.Sprint("P11.1: any version, state ", s), of(5, 5, math.MaxInt), a, []api.Item{item(5, s-3, 7)}, loads(17, 1, 23, s, 24, 5, 25, 7))
		}
	}
}

// TestKeys: each one, given and posted, against ranges; one that is beyond is neither told nor given a version.
func TestKeys(t *testing.T) {
	for _, r := range [][2]int{{0, 63}, {0, 0}, {5, 5}, {5, 6}, {20, 40}, {63, 63}, {6, 5}, {63, 0}, {-1, 64}, {math.MinInt, math.MaxInt}, {math.MaxInt, math.MinInt}} {
		for _, key := range append(noNumbers(), 0, 1, 4, 5, 6, 7, 19, 20, 21, 39, 40, 41, 62, 63) {
			items, data, given1 := []api.Item(nil), []api.Access(nil), []api.Access(nil)
			if r[0] <= key && key <= r[1] {
				items, data = []api.Item{item(key, 1, 7)}, loads(25, 7)
				given1 = then(loads(1, 1), []api.Access{swap(23, 1, 4)}, loads(23, 4))
			}
			what := fmt.Sprintf("P11.1: key %d of %v", key, r)
			finds(t, what, of(r[0], r[1], 1), laid(t, 1, 1, given(1, key, 7)), items, then(loads(17, 1, 23, 4, 24, key), data))
			finds(t, what+", posted", of(r[0], r[1], 1), laid(t, 1, 1, posted(key, 7)), items, then(loads(17, 1, 23, 1, 24, key), given1, data))
		}
	}
}

// TestVersions: each one against each most: not above it, it is told.
func TestVersions(t *testing.T) {
	versions := []int{0, 1, 2, 3, 4, 99, 100, 1 << 20, greatest - 1, greatest}
	for _, version := range versions {
		for _, most := range append(append(noNumbers(), versions...), version-1, version, version+1, 1<<30) {
			items, data := []api.Item(nil), []api.Access(nil)
			if version <= most {
				items, data = []api.Item{item(5, version, 7)}, loads(25, 7)
			}
			s, what := version+3, fmt.Sprintf("P11.1: version %d, most %d", version, most)
			finds(t, what, of(5, 5, most), laid(t, 1, 1, given(version, 5, 7)), items, then(loads(17, 1, 23, s, 24, 5), data))
			want := then(loads(17, 1, 23, 1, 24, 5, 1, version), []api.Access{swap(23, 1, s)}, loads(23, s), data)
			finds(t, what+", posted", of(5, 5, most), laid(t, version, 1, posted(5, 7)), items, want)
		}
	}
}

// TestClocks: the version that a posted cell gets is the clock, held as word's State holds it.
func TestClocks(t *testing.T) {
	for _, clock := range append(noNumbers(), 0, 1, 99, 100, 101, greatest-1, greatest, greatest+1, greatest+2) {
		version := min(max(clock, 0), greatest)
		want := then(loads(17, 1, 23, 1, 24, 5, 1, clock), []api.Access{swap(23, 1, 3+version)}, loads(23, 3+version, 25, 7))
		finds(t, fmt.Sprint("P11.1: clock ", clock), of(5, 5, greatest), laid(t, clock, 1, posted(5, 7)), []api.Item{item(5, version, 7)}, want)
	}
}

// TestItemsOfOneKey: two cells, each version against each one: the second one is the item, if its version isn't less.
func TestItemsOfOneKey(t *testing.T) {
	for one := range 5 {
		for other := range 5 {
			for most := -1; most < 6; most++ {
				want, items := loads(17, 2, 23, 3+one, 24, 5), []api.Item(nil)
				if one <= most {
					want, items = append(want, load(25, 7)), []api.Item{item(5, one, 7)}
				}
				want = append(want, loads(26, 3+other, 27, 5)...)
				if other <= most && (one > most || other >= one) {
					want, items = append(want, load(28, 8)), []api.Item{item(5, other, 8)}
				}
				what := fmt.Sprintf("P11.1: versions %d, %d, most %d", one, other, most)
				finds(t, what, of(5, 5, most), laid(t, 9, 2, given(one, 5, 7), given(other, 5, 8)), items, want)
			}
		}
	}
}

// TestAPostedOneOfOneKey: held, with the version that it gets, against the item that is there.
func TestAPostedOneOfOneKey(t *testing.T) {
	for one := range 5 {
		for clock := range 5 {
			want := then(loads(17, 2, 23, 3+one, 24, 5, 25, 7, 26, 1, 27, 5, 1, clock), []api.Access{swap(26, 1, 3+clock)}, loads(26, 3+clock))
			items := []api.Item{item(5, one, 7)}
			if clock >= one {
				want, items = append(want, load(28, 8)), []api.Item{item(5, clock, 8)}
			}
			what := fmt.Sprintf("P11.1: version %d, posted at %d", one, clock)
			finds(t, what, of(5, 5, 9), laid(t, clock, 2, given(one, 5, 7), posted(5, 8)), items, want)
		}
	}
}

// TestAnItemIsItsKeys: versions of other keys hinder none.
func TestAnItemIsItsKeys(t *testing.T) {
	a := laid(t, 9, 4, given(8, 5, 7), given(0, 6, 8), given(9, 4, 9), given(7, 5, 10))
	want := loads(17, 4, 23, 11, 24, 5, 25, 7, 26, 3, 27, 6, 28, 8, 29, 12, 30, 4, 31, 9, 32, 10, 33, 5)
	finds(t, "P11.1: keys", of(0, 63, 9), a, []api.Item{item(4, 9, 9), item(5, 8, 7), item(6, 0, 8)}, want)
}

// TestAnyData is told as it lies.
func TestAnyData(t *testing.T) {
	for _, data := range append(noNumbers(), 0, 1, 9<<21, 1<<41) {
		finds(t, "P11.1: data", of(5, 5, 9), laid(t, 9, 1, given(1, 5, data)), []api.Item{item(5, 1, data)}, loads(17, 1, 23, 4, 24, 5, 25, data))
	}
}

// TestPlaces: a chunk may begin at any place, the least and the last ones too.
func TestPlaces(t *testing.T) {
	for _, at := range []int{16, 17, 35, 36, 100, 133, 200, 280, 281} {
		a := made(t, two())
		a.Poke(1, 6)
		lay(a, at, 4, given(1, 5, 7), dead(5, 8), posted(6, 9), given(2, 9, 10))
		want := then(loads(at+1, 4, at+7, 4, at+8, 5, at+9, 7, at+10, 2, at+13, 1, at+14, 6, 1, 6), []api.Access{swap(at+13, 1, 9)}, loads(at+13, 9, at+15, 9, at+16, 5, at+17, 9))
		l := func() *Look { return New(two(), at, 0, 8, 9) }
		finds(t, fmt.Sprint("P11.1: at ", at), l, a, []api.Item{item(5, 1, 7), item(6, 6, 9)}, want)
	}
}

// TestAChunkThatIsNotThere: what is loaded there is 0; so is what lies behind the last word.
func TestAChunkThatIsNotThere(t *testing.T) {
	for _, at := range append(noNumbers(), 299, 300, 20000) {
		if at == 64 || at > -20 && at < 0 {
			continue
		}
		l := func() *Look { return New(two(), at, 0, 63, 9) }
		finds(t, fmt.Sprint("P11.1: at ", at), l, laid(t, 6, 4), nil, loads(at+1, 0))
	}
	for _, x := range []struct {
		at    int
		want  []api.Access
		items []api.Item
	}{
		{289, then(loads(290, 2, 296, 1, 297, 5, 1, 6), []api.Access{swap(296, 1, 9)}, loads(296, 9, 298, 7, 299, 1, 300, 0, 1, 6), []api.Access{swap(299, 1, 9)}, loads(299, 9, 301, 0)), []api.Item{item(0, 6, 0), item(5, 6, 7)}},
		{292, then(loads(293, 2, 299, 1, 300, 0, 1, 6), []api.Access{swap(299, 1, 9)}, loads(299, 9, 301, 0, 302, 0)), []api.Item{item(0, 6, 0)}},
		{293, loads(294, 2, 300, 0, 303, 0), nil},
	} {
		a := laid(t, 6, 4)
		lay(a, x.at, 2, posted(5, 7), posted(6, 8))
		l := func() *Look { return New(two(), x.at, 0, 63, 9) }
		finds(t, "P11.1: not all there", l, a, x.items, x.want)
	}
}

// change: between this step (of so many that are behind it) and the next one, by others.
type change struct{ behind, at, word int }

func do(a *arena.Arena, changes []change, behind int) {
	for _, x := range changes {
		if x.behind == behind {
			a.Poke(x.at, x.word)
		}
	}
}

// lookedAmid: all that l does, while a is changed.
func lookedAmid(t *testing.T, l *Look, a *arena.Arena, changes []change) []api.Access {
	t.Helper()
	var done []api.Access
	for over := false; !over; {
		do(a, changes, len(done))
		var x api.Access
		x, over = step(t, l, a)
		done = append(done, x)
	}
	behind(t, l, a)
	return done
}

// toldAmid: what lines does in a copy of a, changed likewise, and what it finds.
func toldAmid(c api.Conf, x asked, a *arena.Arena, changes []change) ([]api.Access, []api.Item) {
	b := a.Copy()
	var done []api.Access
	items := lines(c, x, func(at int) int {
		do(b, changes, len(done))
		done = append(done, load(at, b.Peek(at)))
		return b.Peek(at)
	}, func(at, old, word int) {
		do(b, changes, len(done))
		if b.Peek(at) != old || at < 0 || at >= b.Len() {
			done = append(done, vain(at, b.Peek(at)))
			return
		}
		done = append(done, swap(at, old, word))
		b.Poke(at, word)
	})
	return done, items
}

func followsLines(t *testing.T, c api.Conf, x asked, a *arena.Arena, changes ...change) {
	t.Helper()
	want, items := toldAmid(c, x, a, changes)
	l := x.look(c)
	if got := lookedAmid(t, l, a, changes); !slices.Equal(got, want) || !slices.Equal(l.Items(), items) {
		t.Errorf("P11.1: %+v amid %v: %v, %v, not %v, %v", x, changes, got, l.Items(), want, items)
	}
}

// TestChangesBetweenSteps: what a line loaded counts as it was then, and nothing else of it later.
func TestChangesBetweenSteps(t *testing.T) {
	start := loads(17, 2, 23, 1, 24, 5)
	other := loads(26, 4, 27, 6, 28, 8)
	its := item(6, 1, 8)
	for _, x := range []struct {
		what    string
		changes []change
		want    []api.Access
		items   []api.Item
	}{
		{"the count falls just ahead of 1", []change{{0, 17, 0}}, loads(17, 0), nil},
		{"just behind it", []change{{1, 17, 0}}, then(start, loads(1, 9), []api.Access{swap(23, 1, 12)}, loads(23, 12, 25, 7), other), []api.Item{item(5, 9, 7), its}},
		{"the count rises just behind it", []change{{1, 17, 4}}, then(start, loads(1, 9), []api.Access{swap(23, 1, 12)}, loads(23, 12, 25, 7), other), []api.Item{item(5, 9, 7), its}},
		{"the cell dies just ahead of 2", []change{{1, 23, 2}}, then(loads(17, 2, 23, 2), other), []api.Item{its}},
		{"it gets a version just ahead of 2", []change{{1, 23, 5}}, then(loads(17, 2, 23, 5, 24, 5, 25, 7), other), []api.Item{item(5, 2, 7), its}},
		{"its key changes just ahead of 3", []change{{2, 24, 9}}, then(loads(17, 2, 23, 1, 24, 9), other), []api.Item{its}},
		{"just behind it", []change{{3, 24, 9}}, then(start, loads(1, 9), []api.Access{swap(23, 1, 12)}, loads(23, 12, 25, 7), other), []api.Item{item(5, 9, 7), its}},
		{"it gets a version just behind 2", []change{{2, 23, 5}}, then(start, loads(1, 9), []api.Access{vain(23, 5)}, loads(23, 5, 25, 7), other), []api.Item{item(5, 2, 7), its}},
		{"just behind 3", []change{{3, 23, 5}}, then(start, loads(1, 9), []api.Access{vain(23, 5)}, loads(23, 5, 25, 7), other), []api.Item{item(5, 2, 7), its}},
		{"just behind 4", []change{{4, 23, 3}}, then(start, loads(1, 9), []api.Access{vain(23, 3)}, loads(23, 3, 25, 7), other), []api.Item{item(5, 0, 7), its}},
		{"one above most just behind 4", []change{{4, 23, 13}}, then(start, loads(1, 9), []api.Access{vain(23, 13)}, loads(23, 13), other), []api.Item{its}},
		{"it dies just behind 2", []change{{2, 23, 2}}, then(start, loads(1, 9), []api.Access{vain(23, 2)}, loads(23, 2), other), []api.Item{its}},
		{"just behind 4", []change{{4, 23, 2}}, then(start, loads(1, 9), []api.Access{vain(23, 2)}, loads(23, 2), other), []api.Item{its}},
		{"it is empty just behind 4", []change{{4, 23, 0}}, then(start, loads(1, 9), []api.Access{vain(23, 0)}, loads(23, 0), other), []api.Item{its}},
		{"it is below 0 just behind 4", []change{{4, 23, -4}}, then(start, loads(1, 9), []api.Access{vain(23, -4)}, loads(23, -4), other), []api.Item{its}},
		{"the clock goes on just ahead of 4", []change{{3, 1, 10}}, then(start, loads(1, 10), []api.Access{swap(23, 1, 13)}, loads(23, 13), other), []api.Item{its}},
		{"just behind it", []change{{4, 1, 10}}, then(start, loads(1, 9), []api.Access{swap(23, 1, 12)}, loads(23, 12, 25, 7), other), []api.Item{item(5, 9, 7), its}},
		{"another version just behind 5", []change{{5, 23, 4}}, then(start, loads(1, 9), []api.Access{swap(23, 1, 12)}, loads(23, 4, 25, 7), other), []api.Item{item(5, 1, 7), its}},
		{"it is posted again just behind 5", []change{{5, 23, 1}}, then(start, loads(1, 9), []api.Access{swap(23, 1, 12)}, loads(23, 1), other), []api.Item{its}},
		{"it dies just behind 6", []change{{6, 23, 2}}, then(start, loads(1, 9), []api.Access{swap(23, 1, 12)}, loads(23, 12, 25, 7), other), []api.Item{item(5, 9, 7), its}},
		{"its data changes just ahead of 7", []change{{6, 25, 70}}, then(start, loads(1, 9), []api.Access{swap(23, 1, 12)}, loads(23, 12, 25, 70), other), []api.Item{item(5, 9, 70), its}},
		{"just behind it", []change{{7, 25, 70}}, then(start, loads(1, 9), []api.Access{swap(23, 1, 12)}, loads(23, 12, 25, 7), other), []api.Item{item(5, 9, 7), its}},
		{"a cell that was looked at is posted again", []change{{7, 23, 1}}, then(start, loads(1, 9), []api.Access{swap(23, 1, 12)}, loads(23, 12, 25, 7), other), []api.Item{item(5, 9, 7), its}},
		{"the other cell is posted meanwhile", []change{{4, 26, 1}}, then(start, loads(1, 9), []api.Access{swap(23, 1, 12)}, loads(23, 12, 25, 7, 26, 1, 27, 6, 1, 9), []api.Access{swap(26, 1, 12)}, loads(26, 12, 28, 8)), []api.Item{item(5, 9, 7), item(6, 9, 8)}},
		{"the clock between the two", []change{{4, 26, 1}, {7, 1, 4}}, then(start, loads(1, 9), []api.Access{swap(23, 1, 12)}, loads(23, 12, 25, 7, 26, 1, 27, 6, 1, 4), []api.Access{swap(26, 1, 7)}, loads(26, 7, 28, 8)), []api.Item{item(5, 9, 7), item(6, 4, 8)}},
		{"the other cell's version changes between 2 and 7", []change{{8, 26, 9}}, then(start, loads(1, 9), []api.Access{swap(23, 1, 12)}, loads(23, 12, 25, 7), other), []api.Item{item(5, 9, 7), its}},
	} {
		l := New(two(), 16, 5, 8, 9)
		got := lookedAmid(t, l, laid(t, 9, 2, posted(5, 7), given(1, 6, 8)), x.changes)
		if !slices.Equal(got, x.want) || !slices.Equal(l.Items(), x.items) {
			t.Errorf("P11.1: %s: %v, %v, not %v, %v", x.what, got, l.Items(), x.want, x.items)
		}
	}
}

// TestEachChange: of each word, between any two steps, ahead of and behind them all.
func TestEachChange(t *testing.T) {
	for _, cells := range [][]api.Cell{
		{posted(5, 7), given(4, 6, 8), posted(5, 9)},
		{given(2, 5, 7), posted(5, 8), given(9, 5, 9), posted(9, 10)},
		{dead(5, 7), posted(6, 8), {}, given(3, 6, 9)},
	} {
		for step := range 20 {
			for at := range 36 {
				for _, word := range []int{-1, 0, 1, 2, 3, 5, 6, 9, 12} {
					followsLines(t, two(), asked{16, 5, 8, 6}, laid(t, 5, len(cells), cells...), change{step, at, word})
				}
			}
		}
	}
}

// drawer: numbers by rule, from 0 on, below what is asked.
func drawer(seed int) func(below int) int {
	n := seed
	return func(below int) int {
		n = (n*1103515245 + 12345) % (1 << 31)
		return n >> 8 % below
	}
}

// drawnWord: a state, a key, a version, all little.
func drawnWord(draw func(int) int) int {
	if draw(3) == 0 {
		return draw(3)
	}
	return draw(14) - 1
}

// TestDrawnWords: words that are no chunk's, and changes of many of them.
func TestDrawnWords(t *testing.T) {
	c := api.Conf{Threads: 2, Cap: 6, Words: 110, Versions: 1}
	draw, long, many := drawer(1), 0, 0
	for range 6000 {
		a := made(t, c)
		for at := range a.Len() {
			a.Poke(at, drawnWord(draw))
		}
		changes := make([]change, draw(20))
		for i := range changes {
			changes[i] = change{draw(30), draw(a.Len()), drawnWord(draw)}
		}
		x := asked{draw(90), draw(4), 4 + draw(10), 3 + draw(10)}
		a.Poke(x.chunk+1, draw(8))
		l, items := toldAmid(c, x, a, changes)
		if len(l) > 10 {
			long++
		}
		if len(items) > 2 {
			many++
		}
		followsLines(t, c, x, a, changes...)
	}
	if long < 1000 || many < 300 {
		t.Errorf("%d looks are long, %d find many", long, many)
	}
}

// drawnCells of a chunk, and what a look finds in it, in a few words.
func drawnCells(draw func(int) int, n int) []api.Cell {
	l := make([]api.Cell, n)
	for i := range l {
		l[i] = api.Cell{State: max(0, draw(13)-2), Key: draw(8), Data: 100 + i}
	}
	return l
}

// held: what is there of each key from lo to hi, of versions up to most: the greatest one, the last of several.
func held(cells []api.Cell, clock, lo, hi, most int) []api.Item {
	m := map[int]api.Item{}
	for _, x := range cells {
		if x.State == 1 {
			x.State = 3 + clock
		}
		if old, ok := m[x.Key]; x.State >= 3 && lo <= x.Key && x.Key <= hi && x.State-3 <= most && (!ok || old.Version <= x.State-3) {
			m[x.Key] = item(x.Key, x.State-3, x.Data)
		}
	}
	return byKey(m)
}

// TestDrawnCells: of each key the greatest version up to most is told; P11.3: all that is posted in the range has a version behind the look, and no other word is another one.
func TestDrawnCells(t *testing.T) {
	draw := drawer(2)
	for range 5000 {
		n, clock := draw(5), draw(9)
		cells := drawnCells(draw, 4)
		a, lo, hi, most := laid(t, clock, n, cells...), draw(5), draw(8), draw(10)-1
		want := words(a)
		for i, x := range cells[:n] {
			if x.State == 1 && lo <= x.Key && x.Key <= hi {
				want[23+3*i] = 3 + clock
			}
		}
		l := New(two(), 16, lo, hi, most)
		looked(t, l, a)
		if items := held(cells[:n], clock, lo, hi, most); !slices.Equal(l.Items(), items) {
			t.Errorf("P11.2: %v, clock %d, %d to %d, up to %d: %v, not %v", cells[:n], clock, lo, hi, most, l.Items(), items)
		}
		if !slices.Equal(words(a), want) {
			t.Errorf("P11.3: %v, clock %d, %d to %d: %v, not %v", cells[:n], clock, lo, hi, words(a)[16:35], want[16:35])
		}
	}
}

// TestAFullChunk: of each number of cells that may be, all posted, keys falling.
func TestAFullChunk(t *testing.T) {
	for _, c := range confs() {
		a, at := made(t, c), 40
		a.Poke(1, 6)
		a.Poke(at+1, c.Cap)
		want, items := loads(at+1, c.Cap), []api.Item(nil)
		for i := range c.Cap {
			x := at + 7 + 3*i
			a.Poke(x, 1)
			a.Poke(x+1, 63-i)
			a.Poke(x+2, i)
			want = then(want, loads(x, 1, x+1, 63-i, 1, 6), []api.Access{swap(x, 1, 9)}, loads(x, 9, x+2, i))
			items = append(items, item(63-i, 6, i))
		}
		slices.Reverse(items)
		l := func() *Look { return New(c, at, 0, 63, 9) }
		finds(t, fmt.Sprintf("P11.1: full, %+v", c), l, a, items, want)
	}
}

// turn: whose it is, and what is changed ahead of it.
type turn struct {
	pick    int
	changes []change
}

func drawnTurns(draw func(int) int, looks int) []turn {
	l := make([]turn, 110)
	for i := range l {
		l[i].pick = draw(looks)
		if draw(5) == 0 {
			l[i].changes = append(l[i].changes, change{0, 23 + draw(12), drawnWord(draw)})
		}
		if draw(9) == 0 {
			l[i].changes = append(l[i].changes, change{0, 1, draw(9)})
		}
	}
	return l
}

// together: what each look does and finds, and by turn the word that was swapped.
func together(t *testing.T, l []asked, turns []turn, a *arena.Arena) ([][]api.Access, []*Look, map[int]change) {
	t.Helper()
	done, looks, ended, swapped := make([][]api.Access, len(l)), make([]*Look, len(l)), make([]bool, len(l)), map[int]change{}
	for i, x := range l {
		looks[i] = x.look(two())
	}
	for i, x := range turns {
		do(a, x.changes, 0)
		if ended[x.pick] {
			behind(t, looks[x.pick], a)
			continue
		}
		y, over := step(t, looks[x.pick], a)
		done[x.pick], ended[x.pick] = append(done[x.pick], y), over
		if y.Ok {
			swapped[i] = change{0, y.At, y.New}
		}
	}
	return done, looks, swapped
}

// alone: likewise of look i by itself, while the words are changed as the others had changed them.
func alone(t *testing.T, i int, x asked, turns []turn, a *arena.Arena, swapped map[int]change) ([]api.Access, *Look) {
	t.Helper()
	l, over := x.look(two()), false
	var done []api.Access
	for n, turn := range turns {
		do(a, turn.changes, 0)
		if turn.pick != i {
			do(a, []change{swapped[n]}, 0)
			continue
		}
		if !over {
			var y api.Access
			y, over = step(t, l, a)
			done = append(done, y)
		}
	}
	return done, l
}

// TestLooksAtTheSameTime: in one arena, however they go, each one does what it would alone.
func TestLooksAtTheSameTime(t *testing.T) {
	draw, vains := drawer(3), 0
	for range 600 {
		a := laid(t, draw(6), 2+draw(3), drawnCells(draw, 4)...)
		lay(a, 100, 4, drawnCells(draw, 4)...)
		l := make([]asked, 4)
		for i := range l {
			l[i] = asked{16 + draw(4)/3*84, draw(4), 3 + draw(6), draw(12)}
		}
		turns := drawnTurns(draw, len(l))
		done, looks, swapped := together(t, l, turns, a.Copy())
		for i, x := range l {
			its, look := alone(t, i, x, turns, a.Copy(), swapped)
			if !slices.Equal(its, done[i]) || !slices.Equal(look.Items(), looks[i].Items()) {
				t.Errorf("P11.1: %+v with others: %v, %v, alone %v, %v", x, done[i], looks[i].Items(), its, look.Items())
			}
			for _, y := range its {
				if y.Kind == api.KSwap && !y.Ok {
					vains++
				}
			}
		}
	}
	if vains < 100 {
		t.Errorf("%d swaps in vain", vains)
	}
}

// TestEachOrderOfTwoLooks: at one posted cell, of 7 steps at most, in each order: one of them gives it its version, by the clock that it loaded, and both tell it.
func TestEachOrderOfTwoLooks(t *testing.T) {
	for bits := range 1 << 14 {
		a := laid(t, 0, 1, posted(5, 7))
		looks, ended, clocks, version := [2]*Look{of(5, 5, 99)(), of(0, 9, 99)()}, [2]bool{}, [2]int{}, -1
		for i := range 14 {
			a.Poke(1, i) // the clock goes on
			p := bits >> i & 1
			if ended[p] {
				p = 1 - p
			}
			ended[p] = looks[p].Step(a)
			switch x := a.Last(); {
			case x.At == 1:
				clocks[p] = i
			case x.Ok && version >= 0:
				t.Fatalf("P11.3: order %b: a second version: %+v", bits, x)
			case x.Ok:
				version = clocks[p]
			}
			if version >= 0 && a.Peek(23) != 3+version {
				t.Fatalf("P11.3: order %b: the state is %d, not of version %d", bits, a.Peek(23), version)
			}
		}
		for i, l := range looks {
			if !ended[i] || !slices.Equal(l.Items(), []api.Item{item(5, version, 7)}) {
				t.Errorf("P11.3: order %b: ended %v, %v, not version %d", bits, ended[i], l.Items(), version)
			}
		}
	}
}

// TestAnArenaIsNotKept: each step asks the one that it is handed.
func TestAnArenaIsNotKept(t *testing.T) {
	l := New(two(), 16, 0, 9, 99)
	var got []api.Access
	for over := false; !over; {
		a := laid(t, len(got), 2, posted(5, 7), given(1, 6, 8))
		if len(got) == 5 {
			a.Poke(23, 3+40)
		}
		var x api.Access
		x, over = step(t, l, a)
		got = append(got, x)
		for at := range a.Len() {
			a.Poke(at, 1)
		}
	}
	want := then(loads(17, 2, 23, 1, 24, 5, 1, 3), []api.Access{swap(23, 1, 6)}, loads(23, 43, 25, 7, 26, 4, 27, 6, 28, 8))
	if items := []api.Item{item(5, 40, 7), item(6, 1, 8)}; !slices.Equal(got, want) || !slices.Equal(l.Items(), items) {
		t.Errorf("P11.1: of many arenas: %v, %v, not %v", got, l.Items(), want)
	}
}

// P11.2: what is there

// TestItemsOnTheWay: what is there by then, behind each step.
func TestItemsOnTheWay(t *testing.T) {
	a := laid(t, 6, 4, given(1, 5, 7), posted(4, 8), given(3, 5, 9), given(2, 5, 10))
	l := of(0, 9, 9)()
	one, other, last := []api.Item{item(5, 1, 7)}, []api.Item{item(4, 6, 8), item(5, 1, 7)}, []api.Item{item(4, 6, 8), item(5, 3, 9)}
	for i, want := range [][]api.Item{nil, nil, nil, nil, one, one, one, one, one, one, other, other, other, last, last, last} {
		if got := l.Items(); !slices.Equal(got, want) {
			t.Errorf("P11.2: behind %d steps: %v, not %v", i, got, want)
		}
		if over := l.Step(a); over != (i >= 14) {
			t.Errorf("P11.1: step %d: %v", i, over)
		}
	}
}

// TestItemsByKey: in whatever order the cells stand, each key once.
func TestItemsByKey(t *testing.T) {
	want := []api.Item{item(0, 1, 7), item(5, 2, 8), item(31, 0, 9), item(63, 3, 10)}
	for i := range 256 {
		order := []int{i & 3, i >> 2 & 3, i >> 4 & 3, i >> 6}
		cells, l := make([]api.Cell, 4), map[int]api.Item{}
		for at, j := range order {
			cells[at] = given(want[j].Version, want[j].Key, want[j].Data)
			l[want[j].Key] = want[j]
		}
		x := of(0, 63, 9)()
		if looked(t, x, laid(t, 6, 4, cells...)); !slices.Equal(x.Items(), byKey(l)) {
			t.Errorf("P11.2: cells %v: %v, not %v", cells, x.Items(), byKey(l))
		}
	}
	a := laid(t, 6, 4, given(1, math.MaxInt, 7), given(1, math.MinInt, 8), given(1, 0, 9), given(1, -1, 10))
	x := of(math.MinInt, math.MaxInt, 9)()
	looked(t, x, a)
	if got, want := x.Items(), []api.Item{item(math.MinInt, 1, 8), item(-1, 1, 10), item(0, 1, 9), item(math.MaxInt, 1, 7)}; !slices.Equal(got, want) {
		t.Errorf("P11.2: keys that are none: %v, not %v", got, want)
	}
}

// TestItemsAreNew: what is done to one answer, its spare room too, touches no other one, and not the look.
func TestItemsAreNew(t *testing.T) {
	a := laid(t, 6, 3, given(1, 5, 7), given(1, 4, 8), given(2, 5, 9))
	l := of(0, 9, 9)()
	var answers, wants [][]api.Item
	for over := false; !over; {
		over = l.Step(a)
		answer := l.Items()
		answers, wants = append(answers, answer), append(wants, slices.Clone(answer))
	}
	for i, x := range answers {
		if !slices.Equal(x, wants[i]) {
			t.Errorf("P11.2: answer %d is another one later: %v, was %v", i, x, wants[i])
		}
		for j := range x[:cap(x)] {
			x[:cap(x)][j] = item(-1, -1, -1)
		}
	}
	if want := []api.Item{item(4, 1, 8), item(5, 2, 9)}; !slices.Equal(l.Items(), want) {
		t.Errorf("P11.2: behind a change of its answers: %v, not %v", l.Items(), want)
	}
}

// TestLooksAreTheirOwn: what one finds is none of another one's.
func TestLooksAreTheirOwn(t *testing.T) {
	a := laid(t, 6, 1, given(1, 5, 7))
	one, other := of(0, 9, 9)(), of(0, 9, 9)()
	looked(t, one, a)
	if got := other.Items(); len(got) != 0 {
		t.Errorf("P11.2: one that hasn't begun: %v", got)
	}
	a.Poke(25, 8)
	looked(t, other, a)
	if !slices.Equal(one.Items(), []api.Item{item(5, 1, 7)}) || !slices.Equal(other.Items(), []api.Item{item(5, 1, 8)}) {
		t.Errorf("P11.2: %v, %v", one.Items(), other.Items())
	}
}

// Wrong inputs

// TestAnyInputs: of these nothing is promised but that no call panics, and that a step is one access at most.
func TestAnyInputs(t *testing.T) {
	bad := []api.Conf{{}, {Threads: -1, Cap: -1, Words: -1, Versions: -1}, {Threads: math.MaxInt, Cap: math.MaxInt}, {Threads: math.MinInt, Cap: math.MinInt}, two()}
	for _, c := range bad {
		for _, at := range append(noNumbers(), 0, 1, 16) {
			for _, word := range append(noNumbers(), 0, 1, 2, 3, 16) {
				a := arena.New(20)
				for at := range a.Len() {
					a.Poke(at, word)
				}
				anySteps(t, New(c, at, 0, 63, 9), a)
				anySteps(t, New(c, at, at, word, word), a)
				anySteps(t, New(c, at, word, at, at), arena.New(-1))
			}
		}
	}
	anySteps(t, new(Look), arena.New(20))
}

func anySteps(t *testing.T, l *Look, a *arena.Arena) {
	t.Helper()
	for range 30 {
		n := a.Accesses()
		if over := l.Step(a); a.Accesses() > n+1 || !over && a.Accesses() == n {
			t.Errorf("P11.1: a step of %d accesses, ended %v", a.Accesses()-n, over)
		}
		l.Items()
	}
}
