package cell

import (
	"fmt"
	"math"
	"math/bits"
	"slices"
	"testing"

	"armillary/api"
	"armillary/arena"
	"armillary/place"
)

// two threads, chunks of four cells: the first chunk is at 16, its FCount at 17, its FStatus at 22, its cells' states at 23, 26, 29, 32. The clock is at 1.
func two() api.Conf { return api.Conf{Threads: 2, Cap: 4, Words: 80, Versions: 100} }

func eight() api.Conf { return api.Conf{Threads: 8, Cap: 10, Words: 80, Versions: 100} }

const clock = 1

// confs: each number of threads, each number of cells that may be.
func confs() []api.Conf {
	var l []api.Conf
	for threads := 1; threads <= api.MaxThreads; threads++ {
		for cells := threads + 2; cells <= api.MaxCap; cells++ {
			l = append(l, api.Conf{Threads: threads, Cap: cells, Words: 130, Versions: 1})
		}
	}
	return l
}

// first: where the document lays the first chunk.
func first(c api.Conf) int { return 3 + c.Threads + 4 + 7 }

// greatest version that a word holds.
const greatest = 1<<24 - 4

// noNumbers: of places, keys, counts and words, those that are none.
func noNumbers() []int {
	return []int{math.MinInt, math.MinInt + 1, -1 << 62, -1 << 40, -20000, -64, -17, -16, -7, -6, -2, -1, 64, 20000, 20001, 1 << 40, 1 << 62, math.MaxInt - 6, math.MaxInt - 1, math.MaxInt}
}

func made(t *testing.T, c api.Conf) *arena.Arena {
	t.Helper()
	a, err := place.Make(c)
	if err != nil {
		t.Fatalf("P3.2: Make of %+v: %v", c, err)
	}
	return a
}

// junk: an arena whose every word is another one, and that has some accesses behind it.
func junk(t *testing.T, c api.Conf) *arena.Arena {
	t.Helper()
	a := made(t, c)
	a.Store(0, 5)
	a.Swap(0, 5, 6)
	for at := range a.Len() {
		a.Poke(at, 1000+at)
	}
	return a
}

// laid: such a one, with this clock, and with a chunk that takes puts, so many of whose cells are taken, whatever they are; the other ones are empty, whatever their keys and data are.
func laid(t *testing.T, c api.Conf, chunk, now, count int) *arena.Arena {
	t.Helper()
	a := junk(t, c)
	a.Poke(clock, now)
	a.Poke(chunk+1, count)
	a.Poke(chunk+6, 0)
	for i := max(count, 0); i < c.Cap; i++ {
		a.Poke(chunk+7+3*i, 0)
	}
	return a
}

func load(at, word int) api.Access { return api.Access{Kind: api.KLoad, At: at, Old: word, New: word} }

func store(at, old, word int) api.Access {
	return api.Access{Kind: api.KStore, At: at, Old: old, New: word}
}

func add(at, old int) api.Access { return api.Access{Kind: api.KAdd, At: at, Old: old, New: old + 1} }

// swap: one that is done; vain: one that found that word.
func swap(at, old, word int) api.Access {
	return api.Access{Kind: api.KSwap, At: at, Old: old, New: word, Ok: true}
}

func vain(at, word int) api.Access {
	return api.Access{Kind: api.KSwap, At: at, Old: word, New: word}
}

// asked: what a put is made of.
type asked struct{ chunk, key, data int }

func (x asked) put(c api.Conf) *Cell { return New(c, x.chunk, x.key, x.data) }

// it: a put of key 5 in the first chunk.
func it() asked { return asked{16, 5, 77} }

// whole: its accesses, if nobody else does anything, to cell i of a chunk that takes puts: it gets the version that the clock tells.
func (x asked) whole(a *arena.Arena, i, now int) []api.Access {
	at := x.chunk + 7 + 3*i
	has := 3 + now
	return []api.Access{
		load(x.chunk+6, 0), add(x.chunk+1, i), store(at+1, a.Peek(at+1), x.key), store(at+2, a.Peek(at+2), x.data),
		swap(at, 0, 1), load(clock, now), swap(at, 1, has), load(at, has),
	}
}

// outcome: what a put tells.
type outcome struct {
	version int
	ok      bool
	place   int
}

// unplaced: of one without a cell; noVersion: in that cell.
func unplaced() outcome { return outcome{place: -1} }

func noVersion(i int) outcome { return outcome{place: i} }

func given(version, i int) outcome { return outcome{version, true, i} }

func told(x *Cell) outcome {
	version, ok := x.Version()
	return outcome{version, ok, x.Place()}
}

// is: that outcome, however often it is asked.
func is(t *testing.T, what string, x *Cell, want outcome) {
	t.Helper()
	for range 3 {
		if got := told(x); got != want {
			t.Errorf("%s: %+v, not %+v", what, got, want)
		}
	}
}

func words(a *arena.Arena) []int {
	l := make([]int, a.Len())
	for at := range l {
		l[at] = a.Peek(at)
	}
	return l
}

// step: one that isn't behind the end: its access, and whether it has ended. It is one access, and changes no word but the one that it tells.
func step(t *testing.T, x *Cell, a *arena.Arena) (api.Access, bool) {
	t.Helper()
	want, n := words(a), a.Accesses()
	over := x.Step(a)
	last := a.Last()
	if a.Accesses() != n+1 {
		t.Fatalf("P15.1: a step of %d accesses, the last one %+v", a.Accesses()-n, last)
	}
	if last.At >= 0 && last.At < len(want) {
		want[last.At] = last.New
	}
	if !slices.Equal(words(a), want) {
		t.Fatalf("P15.1: %+v changes another word", last)
	}
	return last, over
}

// behind its end: no access, nothing changed, true, whatever the words are by now.
func behind(t *testing.T, x *Cell, a *arena.Arena) {
	t.Helper()
	want, posted, zero := told(x), a.Copy(), a.Copy()
	for at := range a.Len() {
		posted.Poke(at, 1)
		zero.Poke(at, 0)
	}
	for _, b := range []*arena.Arena{a, a, posted, zero, arena.New(1), a} {
		was, n, last := words(b), b.Accesses(), b.Last()
		if !x.Step(b) {
			t.Error("P15.1: behind its end Step tells false")
		}
		if b.Accesses() != n || b.Last() != last || !slices.Equal(words(b), was) {
			t.Errorf("P15.1: behind its end Step does something: %+v", b.Last())
		}
		is(t, "P15.1: behind its end", x, want)
	}
}

// running: a put that is under way, and what it did.
type running struct {
	*Cell
	asked asked
	room  int
	done  []api.Access
	over  bool
}

func begun(c api.Conf, x asked) *running { return &running{Cell: x.put(c), asked: x, room: c.Cap} }

// turn: its next step. As long as it hasn't ended it tells no version, and the place that line 2 found, from then on.
func (r *running) turn(t *testing.T, a *arena.Arena) {
	t.Helper()
	if r.over {
		behind(t, r.Cell, a)
		return
	}
	is(t, fmt.Sprintf("P15.1: behind %v", r.done), r.Cell, noVersion(r.place()))
	var x api.Access
	x, r.over = step(t, r.Cell, a)
	r.done = append(r.done, x)
	if len(r.done) > 8 {
		t.Fatalf("P15.1: it doesn't end behind %v", r.done)
	}
}

// place that line 2 found; -1 of none.
func (r *running) place() int {
	if len(r.done) < 2 || r.done[1].Old < 0 || r.done[1].Old >= r.room {
		return -1
	}
	return r.done[1].Old
}

func (r *running) toItsEnd(t *testing.T, a *arena.Arena) {
	t.Helper()
	for !r.over {
		r.turn(t, a)
	}
}

// change: between this step (of so many that are behind it) and the next one, by others.
type change struct{ behind, at, word int }

func do(a *arena.Arena, changes []change, behind int) {
	for _, x := range changes {
		if x.behind == behind {
			a.Poke(x.at, x.word)
		}
	}
}

// amid: all of a put, while a is changed, also behind the end.
func amid(t *testing.T, c api.Conf, x asked, a *arena.Arena, changes ...change) *running {
	t.Helper()
	r := begun(c, x)
	for !r.over {
		do(a, changes, len(r.done))
		r.turn(t, a)
	}
	want := told(r.Cell)
	do(a, changes, len(r.done))
	behind(t, r.Cell, a)
	is(t, "P15.1: behind its end", r.Cell, want)
	return r
}

// tells this outcome, by these accesses; likewise when it is asked again, as it was.
func tells(t *testing.T, what string, c api.Conf, x asked, a *arena.Arena, want outcome, accesses []api.Access) {
	t.Helper()
	for range 2 {
		r := amid(t, c, x, a.Copy())
		if !slices.Equal(r.done, accesses) {
			t.Errorf("%s: %+v: %v, not %v", what, x, r.done, accesses)
		}
		is(t, what, r.Cell, want)
	}
}

// P15.1: the lines

func TestANewArena(t *testing.T) {
	for _, c := range confs() {
		a, x := made(t, c), asked{first(c), 5, 77}
		tells(t, fmt.Sprintf("P15.1: %+v", c), c, x, a, given(0, 0), x.whole(a, 0, 0))
	}
}

// TestWordByWord: all eight lines, in numbers.
func TestWordByWord(t *testing.T) {
	a := made(t, two())
	a.Poke(1, 6)
	a.Poke(17, 1)
	a.Poke(27, 8)
	a.Poke(28, 9)
	want := []api.Access{
		{Kind: api.KLoad, At: 22, Old: 0, New: 0},
		{Kind: api.KAdd, At: 17, Old: 1, New: 2},
		{Kind: api.KStore, At: 27, Old: 8, New: 5},
		{Kind: api.KStore, At: 28, Old: 9, New: 77},
		{Kind: api.KSwap, At: 26, Old: 0, New: 1, Ok: true},
		{Kind: api.KLoad, At: 1, Old: 6, New: 6},
		{Kind: api.KSwap, At: 26, Old: 1, New: 9, Ok: true},
		{Kind: api.KLoad, At: 26, Old: 9, New: 9},
	}
	tells(t, "P15.1: word by word", two(), it(), a, given(6, 1), want)
}

// TestStatuses: of a chunk that is frozen, or replaced, or whatever isn't 0: one load, and nothing is changed, whatever room there is.
func TestStatuses(t *testing.T) {
	for _, status := range append(noNumbers(), 1, 2, 3, 4) {
		for _, count := range []int{-1, 0, 3, 4} {
			a := laid(t, two(), 16, 6, count)
			a.Poke(22, status)
			tells(t, fmt.Sprintf("P15.1: status %d, count %d", status, count), two(), it(), a, unplaced(), []api.Access{load(22, status)})
		}
	}
}

// TestCounts: of each chunk from the first cell to the last one; at Cap, above it, below 0 there is no cell, though the count goes on.
func TestCounts(t *testing.T) {
	for _, c := range confs() {
		x := asked{first(c), 5, 77}
		for i := range c.Cap {
			a := laid(t, c, x.chunk, 6, i)
			tells(t, fmt.Sprintf("P15.1: %+v, count %d", c, i), c, x, a, given(6, i), x.whole(a, i, 6))
		}
		for _, count := range append(noNumbers(), c.Cap, c.Cap+1, c.Cap+2, 100) {
			a := laid(t, c, x.chunk, 6, count)
			tells(t, fmt.Sprintf("P15.1: %+v, count %d", c, count), c, x, a, unplaced(), []api.Access{load(x.chunk+6, 0), add(x.chunk+1, count)})
		}
	}
}

// TestACellThatIsNotEmpty: it is in vain there; what it is stays, and the next cell is nobody's.
func TestACellThatIsNotEmpty(t *testing.T) {
	for _, state := range append(noNumbers(), 1, 2, 3, 4, 9, greatest+3) {
		for i := range 4 {
			a := laid(t, two(), 16, 6, i)
			at := 23 + 3*i
			a.Poke(at, state)
			want := append(it().whole(a, i, 6)[:4], vain(at, state))
			tells(t, fmt.Sprintf("P15.1: cell %d of state %d", i, state), two(), it(), a, noVersion(i), want)
		}
	}
}

// TestClocks: at 0, and counted on; what no version is is held.
func TestClocks(t *testing.T) {
	for _, now := range append(noNumbers(), 0, 1, 2, 3, 99, 100, 101, api.MaxVersions-1, api.MaxVersions, greatest-1, greatest, greatest+1, greatest+2, greatest+3, 1<<24) {
		a := laid(t, two(), 16, now, 2)
		version := min(max(now, 0), greatest)
		want := it().whole(a, 2, version)
		want[5] = load(clock, now)
		tells(t, fmt.Sprint("P15.1: clock ", now), two(), it(), a, given(version, 2), want)
	}
}

// TestLastStates: each state that line 8 may find; below Given it has no version.
func TestLastStates(t *testing.T) {
	for _, state := range append(noNumbers(), 0, 1, 2, 3, 4, 5, 8, 9, 10, 102, 103, greatest+2, greatest+3, greatest+4) {
		a := laid(t, two(), 16, 6, 1)
		accesses := append(it().whole(a, 1, 6)[:7], load(26, state))
		r := amid(t, two(), it(), a, change{7, 26, state})
		if !slices.Equal(r.done, accesses) {
			t.Errorf("P15.1: state %d at line 8: %v, not %v", state, r.done, accesses)
		}
		want := noVersion(1)
		if state > 2 {
			want = given(state-3, 1)
		}
		is(t, fmt.Sprintf("P15.1: state %d at line 8", state), r.Cell, want)
	}
}

// TestKeysAndData: each one is stored as it is.
func TestKeysAndData(t *testing.T) {
	var numbers []int
	for n := range 66 {
		numbers = append(numbers, n)
	}
	for _, key := range append(noNumbers(), numbers...) {
		for _, data := range append(noNumbers(), 0, 1, 2, 77, 1<<20, 1<<20+1, 1<<41) {
			x, a := asked{16, key, data}, laid(t, two(), 16, 6, 3)
			tells(t, "P15.1: keys and data", two(), x, a, given(6, 3), x.whole(a, 3, 6))
		}
	}
}

// TestPlaces: a chunk wherever it lies.
func TestPlaces(t *testing.T) {
	for at := 2; at <= 80-19; at++ {
		for i := range 4 {
			x, a := asked{at, 5, 77}, laid(t, two(), at, 6, i)
			tells(t, fmt.Sprint("P15.1: a chunk at ", at), two(), x, a, given(6, i), x.whole(a, i, 6))
		}
	}
}

// TestAChunkThatIsNotThere: its words are 0, and stay so: its first cell is never posted. One that is there in part likewise.
func TestAChunkThatIsNotThere(t *testing.T) {
	for _, at := range []int{80, 81, 20000, 1 << 30, -30, -100} {
		a, x := junk(t, two()), asked{at, 5, 77}
		want := []api.Access{load(at+6, 0), {Kind: api.KAdd, At: at + 1}, {Kind: api.KStore, At: at + 8}, {Kind: api.KStore, At: at + 9}, {Kind: api.KSwap, At: at + 7}}
		tells(t, fmt.Sprint("P15.1: a chunk at ", at), two(), x, a, noVersion(0), want)
	}
	a, x := laid(t, two(), 73, 6, 0), asked{73, 5, 77}
	want := []api.Access{load(79, 0), add(74, 0), {Kind: api.KStore, At: 81}, {Kind: api.KStore, At: 82}, {Kind: api.KSwap, At: 80}}
	tells(t, "P15.1: a header alone is there", two(), x, a, noVersion(0), want)
	a, x = laid(t, two(), 68, 6, 1), asked{68, 5, 77}
	want = []api.Access{load(74, 0), add(69, 1), store(79, 1079, 5), {Kind: api.KStore, At: 80}, swap(78, 0, 1), load(1, 6), swap(78, 1, 9), load(78, 9)}
	tells(t, "P15.1: a cell's data isn't there", two(), x, a, given(6, 1), want)
	a = laid(t, two(), 68, 6, 3)
	want = []api.Access{load(74, 0), add(69, 3), {Kind: api.KStore, At: 85}, {Kind: api.KStore, At: 86}, {Kind: api.KSwap, At: 84}}
	tells(t, "P15.1: the last cell isn't there", two(), x, a, noVersion(3), want)
}

// TestOneBehindTheOther: puts of one key, of several keys, until the chunk is full, and some more.
func TestOneBehindTheOther(t *testing.T) {
	for _, c := range confs() {
		for _, keys := range []int{1, 2, 64} {
			a := made(t, c)
			for i := range c.Cap + 3 {
				a.Poke(clock, i/2)
				x := asked{first(c), i % keys, 100 + i}
				want, accesses := unplaced(), []api.Access{load(x.chunk+6, 0), add(x.chunk+1, i)}
				if i < c.Cap {
					want, accesses = given(i/2, i), x.whole(a, i, i/2)
				}
				r := amid(t, c, x, a)
				if !slices.Equal(r.done, accesses) {
					t.Errorf("P15.1: %+v: put %d: %v, not %v", c, i, r.done, accesses)
				}
				is(t, "P15.1: one behind the other", r.Cell, want)
			}
			holdsRow(t, c, keys, a)
		}
	}
}

// holdsRow: each cell what its put laid.
func holdsRow(t *testing.T, c api.Conf, keys int, a *arena.Arena) {
	t.Helper()
	for i := range c.Cap {
		at := first(c) + 7 + 3*i
		if got, want := [3]int{a.Peek(at), a.Peek(at + 1), a.Peek(at + 2)}, [3]int{3 + i/2, i % keys, 100 + i}; got != want {
			t.Errorf("P15.1: %+v: cell %d: %v, not %v", c, i, got, want)
		}
	}
	if got := a.Peek(first(c) + 1); got != c.Cap+3 {
		t.Errorf("P15.1: %+v: the count is %d", c, got)
	}
}

// TestWhatIsTouched: the chunk's FCount and the put's own cell, no other word.
func TestWhatIsTouched(t *testing.T) {
	for at := 2; at <= 61; at++ {
		for i := range 4 {
			a := laid(t, two(), at, 6, i)
			want := words(a)
			amid(t, two(), asked{at, 5, 77}, a)
			own := at + 7 + 3*i
			want[at+1], want[own], want[own+1], want[own+2] = i+1, 9, 5, 77
			if got := words(a); !slices.Equal(got, want) {
				t.Errorf("P15.1: a chunk at %d, cell %d: %v, not %v", at, i, got, want)
			}
		}
	}
}

// TestWhatIsToldOnTheWay: a version at the end alone, a place from line 2 on; both then for ever, whatever the words are.
func TestWhatIsToldOnTheWay(t *testing.T) {
	for i := range 4 {
		x, a := it().put(two()), laid(t, two(), 16, 6, i)
		for steps := range 12 {
			want := unplaced()
			switch {
			case steps >= 8:
				want = given(6, i)
				a.Poke(clock, 100*steps)
				a.Poke(17, steps%4)
				a.Poke(23+3*i, steps%5)
			case steps >= 2:
				want = noVersion(i)
			}
			is(t, fmt.Sprintf("P15.1: behind %d steps", steps), x, want)
			if over := x.Step(a); over != (steps >= 7) {
				t.Errorf("P15.1: step %d: %v", steps, over)
			}
		}
	}
}

// TestTheEndInVain is told by the access that finds it.
func TestTheEndInVain(t *testing.T) {
	for _, y := range []struct {
		what      string
		steps     int
		at, word  int
		unchanged bool
		want      outcome
	}{
		{"frozen", 1, 22, 1, true, unplaced()},
		{"replaced", 1, 22, 2, true, unplaced()},
		{"full", 2, 17, 4, false, unplaced()},
		{"above", 2, 17, 5, false, unplaced()},
		{"below", 2, 17, -1, false, unplaced()},
		{"dead", 5, 23, 2, false, noVersion(0)},
		{"posted", 5, 23, 1, false, noVersion(0)},
		{"given", 5, 23, 9, false, noVersion(0)},
	} {
		a, x := laid(t, two(), 16, 6, 0), it().put(two())
		a.Poke(y.at, y.word)
		was, n := words(a), a.Accesses()
		for i := range y.steps {
			if over := x.Step(a); over != (i == y.steps-1) {
				t.Errorf("P15.1: %s: step %d: %v", y.what, i, over)
			}
		}
		if a.Accesses() != n+y.steps || slices.Equal(words(a), was) != y.unchanged {
			t.Errorf("P15.1: %s: %d accesses, the last one %+v", y.what, a.Accesses()-n, a.Last())
		}
		is(t, "P15.1: "+y.what, x, y.want)
		a.Poke(22, 0)
		a.Poke(17, 0)
		a.Poke(23, 0)
		behind(t, x, a)
		is(t, "P15.1: "+y.what+" then", x, y.want)
	}
}

// TestChangesBetweenSteps: what a line was told counts as it was then, and nothing else of it later.
func TestChangesBetweenSteps(t *testing.T) {
	whole := it().whole(laid(t, two(), 16, 6, 1), 1, 6)
	to := func(n int, then ...api.Access) []api.Access { return slices.Concat(whole[:n], then) }
	for _, x := range []struct {
		what    string
		changes []change
		want    []api.Access
		outcome outcome
	}{
		{"none", nil, whole, given(6, 1)},
		{"frozen ahead of 1", []change{{0, 22, 1}}, []api.Access{load(22, 1)}, unplaced()},
		{"frozen just behind 1", []change{{1, 22, 1}}, whole, given(6, 1)},
		{"frozen later", []change{{2, 22, 1}}, whole, given(6, 1)},
		{"frozen ahead of its posting", []change{{4, 22, 1}}, whole, given(6, 1)},
		{"replaced behind 1", []change{{1, 22, 2}}, whole, given(6, 1)},
		{"not frozen any more", []change{{0, 22, 1}, {0, 22, 0}}, whole, given(6, 1)},
		{"another one takes a cell ahead of 2", []change{{1, 17, 2}, {1, 29, 0}},
			to(1, add(17, 2), store(30, 1030, 5), store(31, 1031, 77), swap(29, 0, 1), load(1, 6), swap(29, 1, 9), load(29, 9)), given(6, 2)},
		{"the last cell is left", []change{{1, 17, 3}},
			to(1, add(17, 3), store(33, 1033, 5), store(34, 1034, 77), swap(32, 0, 1), load(1, 6), swap(32, 1, 9), load(32, 9)), given(6, 3)},
		{"others take all cells ahead of 2", []change{{1, 17, 4}}, to(1, add(17, 4)), unplaced()},
		{"and more", []change{{1, 17, 9}}, to(1, add(17, 9)), unplaced()},
		{"the count falls below 0", []change{{1, 17, -1}}, to(1, add(17, -1)), unplaced()},
		{"the count goes on behind 2", []change{{2, 17, 3}}, whole, given(6, 1)},
		{"the count is 0 behind 2", []change{{2, 17, 0}}, whole, given(6, 1)},
		{"the count is Cap behind 2", []change{{2, 17, 4}, {6, 17, 9}}, whole, given(6, 1)},
		{"another key is there ahead of 3", []change{{2, 27, 9}}, append(to(2, store(27, 9, 5)), whole[3:]...), given(6, 1)},
		{"another key behind 3", []change{{3, 27, 9}, {4, 27, 10}, {7, 27, 11}}, whole, given(6, 1)},
		{"other data are there ahead of 4", []change{{3, 28, 9}}, append(to(3, store(28, 9, 77)), whole[4:]...), given(6, 1)},
		{"other data behind 4", []change{{4, 28, 9}, {5, 28, 10}, {7, 28, 11}}, whole, given(6, 1)},
		{"sealed just behind 2", []change{{2, 26, 2}}, to(4, vain(26, 2)), noVersion(1)},
		{"sealed just ahead of its posting", []change{{4, 26, 2}}, to(4, vain(26, 2)), noVersion(1)},
		{"posted by another one", []change{{4, 26, 1}}, to(4, vain(26, 1)), noVersion(1)},
		{"given by another one", []change{{4, 26, 9}}, to(4, vain(26, 9)), noVersion(1)},
		{"empty again in time", []change{{2, 26, 2}, {4, 26, 0}}, whole, given(6, 1)},
		{"another cell is sealed", []change{{4, 23, 2}, {4, 29, 2}}, whole, given(6, 1)},
		{"sealed just behind its posting", []change{{5, 26, 9}}, to(5, load(1, 6), vain(26, 9), load(26, 9)), given(6, 1)},
		{"sealed behind 6", []change{{6, 26, 9}}, to(6, vain(26, 9), load(26, 9)), given(6, 1)},
		{"another one gives an earlier version behind 5", []change{{5, 26, 7}}, to(5, load(1, 6), vain(26, 7), load(26, 7)), given(4, 1)},
		{"the first version of all", []change{{5, 26, 3}}, to(5, load(1, 6), vain(26, 3), load(26, 3)), given(0, 1)},
		{"an earlier one just ahead of 7", []change{{6, 26, 7}}, to(6, vain(26, 7), load(26, 7)), given(4, 1)},
		{"a later one just ahead of 7", []change{{6, 26, 11}}, to(6, vain(26, 11), load(26, 11)), given(8, 1)},
		{"dead behind 5", []change{{5, 26, 2}}, to(5, load(1, 6), vain(26, 2), load(26, 2)), noVersion(1)},
		{"dead behind 6", []change{{6, 26, 2}}, to(6, vain(26, 2), load(26, 2)), noVersion(1)},
		{"empty behind 5", []change{{5, 26, 0}}, to(5, load(1, 6), vain(26, 0), load(26, 0)), noVersion(1)},
		{"given and posted again", []change{{5, 26, 9}, {6, 26, 1}}, whole, given(6, 1)},
		{"another state behind 7", []change{{7, 26, 11}}, to(7, load(26, 11)), given(8, 1)},
		{"dead behind 7", []change{{7, 26, 2}}, to(7, load(26, 2)), noVersion(1)},
		{"posted behind 7", []change{{7, 26, 1}}, to(7, load(26, 1)), noVersion(1)},
		{"empty behind 7", []change{{7, 26, 0}}, to(7, load(26, 0)), noVersion(1)},
		{"another state behind the end", []change{{8, 26, 11}}, whole, given(6, 1)},
		{"the clock goes on ahead of 6", []change{{5, 1, 8}}, to(5, load(1, 8), swap(26, 1, 11), load(26, 11)), given(8, 1)},
		{"the clock goes on at first", []change{{0, 1, 8}}, to(5, load(1, 8), swap(26, 1, 11), load(26, 11)), given(8, 1)},
		{"the clock goes on between 6 and 7", []change{{6, 1, 8}}, whole, given(6, 1)},
		{"the clock goes on behind 7", []change{{7, 1, 8}, {8, 1, 9}}, whole, given(6, 1)},
		{"the clock goes on and another one gives that version", []change{{6, 1, 8}, {6, 26, 11}}, to(6, vain(26, 11), load(26, 11)), given(8, 1)},
		{"the clock is at Versions", []change{{1, 1, 100}}, to(5, load(1, 100), swap(26, 1, 103), load(26, 103)), given(100, 1)},
	} {
		r := amid(t, two(), it(), laid(t, two(), 16, 6, 1), x.changes...)
		if !slices.Equal(r.done, x.want) {
			t.Errorf("P15.1: %s: %v, not %v", x.what, r.done, x.want)
		}
		is(t, "P15.1: "+x.what, r.Cell, x.outcome)
	}
}

// memory: what lines asks, of words that others change ahead of its accesses.
type memory struct {
	words   *arena.Arena
	changes []change
	done    []api.Access
}

// did: one access; of a place that isn't there both words are 0, and no swap is done.
func (m *memory) did(at int, access func(was int) api.Access) api.Access {
	do(m.words, m.changes, len(m.done))
	x := access(m.words.Peek(at))
	if at < 0 || at >= m.words.Len() {
		x = api.Access{Kind: x.Kind, At: at}
	}
	m.words.Poke(at, x.New)
	m.done = append(m.done, x)
	return x
}

func (m *memory) load(at int) int {
	return m.did(at, func(was int) api.Access { return load(at, was) }).Old
}

func (m *memory) store(at, word int) {
	m.did(at, func(was int) api.Access { return store(at, was, word) })
}

func (m *memory) add(at int) int {
	return m.did(at, func(was int) api.Access { return add(at, was) }).Old
}

func (m *memory) swap(at, old, word int) bool {
	return m.did(at, func(was int) api.Access {
		if was != old {
			return vain(at, was)
		}
		return swap(at, old, word)
	}).Ok
}

// lines: P15.1's, told once more.
func lines(c api.Conf, x asked, m *memory) outcome {
	if m.load(x.chunk+6) != 0 {
		return unplaced()
	}
	i := m.add(x.chunk + 1)
	if i < 0 || c.Cap <= i {
		return unplaced()
	}
	at := x.chunk + 7 + 3*i
	m.store(at+1, x.key)
	m.store(at+2, x.data)
	if !m.swap(at, 0, 1) {
		return noVersion(i)
	}
	m.swap(at, 1, 3+min(max(m.load(clock), 0), greatest))
	if state := m.load(at); state >= 3 {
		return given(state-3, i)
	}
	return noVersion(i)
}

func followsLines(t *testing.T, c api.Conf, x asked, a *arena.Arena, changes ...change) *memory {
	t.Helper()
	m := &memory{words: a.Copy(), changes: changes}
	want := lines(c, x, m)
	r := amid(t, c, x, a, changes...)
	what := fmt.Sprintf("P15.1: %+v amid %v", x, changes)
	if !slices.Equal(r.done, m.done) {
		t.Errorf("%s: %v, not %v", what, r.done, m.done)
	}
	is(t, what, r.Cell, want)
	return m
}

// TestEachChange: of each word, between any two steps, ahead of and behind them all; then of two.
func TestEachChange(t *testing.T) {
	values := []int{-1, 0, 1, 2, 3, 4, 5, 8, 9, 11}
	for behind := range 9 {
		for at := range 40 {
			for _, word := range values {
				followsLines(t, two(), it(), laid(t, two(), 16, 6, 1), change{behind, at, word})
			}
		}
	}
	places := []int{1, 17, 22, 26, 29}
	for one := range 8 * len(places) * len(values) {
		for other := range 8 * len(places) {
			changes := []change{{one % 8, places[one/8%len(places)], values[one/8/len(places)]}, {other % 8, places[other/8], []int{1, 0, 2, 8}[(one+other/3)%4]}}
			followsLines(t, two(), it(), laid(t, two(), 16, 6, 1), changes...)
		}
	}
}

// drawer: numbers by rule, from 0 on, below what is asked.
func drawer(seed int) func(below int) int {
	n := seed
	return func(below int) int {
		n = (n*1103515245 + 12345) % (1 << 31)
		return n >> 16 % below
	}
}

// TestDrawnWords: words that are no chunk's, chunks wherever, and changes of many words.
func TestDrawnWords(t *testing.T) {
	draw, ends := drawer(1), map[int]int{}
	for range 20000 {
		c := api.Conf{Threads: 1, Cap: 3 + draw(4), Words: 80, Versions: 100}
		a := made(t, c)
		for at := range a.Len() {
			a.Poke(at, draw(9)-1)
			if draw(2) == 0 {
				a.Poke(at, 0)
			}
		}
		x := asked{draw(85) - 3, draw(4), draw(100)}
		changes := make([]change, draw(12))
		for i := range changes {
			changes[i] = change{draw(9), draw(a.Len()), draw(9) - 1}
			switch draw(4) {
			case 0:
				changes[i].at = clock
			case 1:
				changes[i].at = x.chunk + 7 + 3*draw(2)
			}
		}
		m := followsLines(t, c, x, a, changes...)
		ends[len(m.done)]++
	}
	for _, n := range []int{1, 2, 5, 8} {
		if ends[n] < 1000 {
			t.Errorf("drawn ends: %v", ends)
		}
	}
}

// follows: what it did are its lines, in its own cell, however the others went; these are the words that its cell's key and data were.
func (r *running) follows(t *testing.T, what string, wasKey, wasData func(i int) int) {
	t.Helper()
	if !r.over {
		t.Fatalf("%s: it hasn't ended behind %v", what, r.done)
	}
	x, count, i := r.asked, r.done[1].Old, r.place()
	want, ends := []api.Access{load(x.chunk+6, 0), add(x.chunk+1, count)}, unplaced()
	if i >= 0 && len(r.done) > 5 {
		at, now := x.chunk+7+3*i, r.done[5].Old
		want = append(want, store(at+1, wasKey(i), x.key), store(at+2, wasData(i), x.data), swap(at, 0, 1), load(clock, now), swap(at, 1, 3+now), load(at, 3+now))
		ends = given(now, i)
	}
	if !slices.Equal(r.done, want) {
		t.Errorf("%s: %v, not %v", what, r.done, want)
	}
	is(t, what, r.Cell, ends)
}

// TestPutsAtTheSameTime: more of them than there are cells, in one chunk, while the clock goes on: each one does its lines, in a cell of its own, and has the version that it found; those for which no cell is left have none.
func TestPutsAtTheSameTime(t *testing.T) {
	draw, mixed := drawer(2), 0
	for range 600 {
		a, taken := made(t, eight()), draw(8)
		chunk := first(eight())
		a.Poke(chunk+1, taken)
		a.Poke(clock, draw(5))
		var l []*running
		for i := range 8 {
			l = append(l, begun(eight(), asked{chunk, draw(3), 100 + i}))
		}
		order := takeTurns(t, draw, l, a)
		if !slices.IsSorted(order) {
			mixed++
		}
		var counts []int
		for _, r := range l {
			r.follows(t, "P15.1: among others", zero, zero)
			counts = append(counts, r.done[1].Old)
			if i := r.place(); i >= 0 {
				at := chunk + 7 + 3*i
				if got, want := [3]int{a.Peek(at), a.Peek(at + 1), a.Peek(at + 2)}, [3]int{3 + told(r.Cell).version, r.asked.key, r.asked.data}; got != want {
					t.Errorf("P15.1: cell %d among others: %v, not %v", i, got, want)
				}
			}
		}
		slices.Sort(counts)
		for i, count := range counts {
			if count != taken+i {
				t.Errorf("P15.1: from %d on: %v", taken, counts)
			}
		}
	}
	if mixed < 500 {
		t.Errorf("%d orders are mixed", mixed)
	}
}

func zero(int) int { return 0 }

// takeTurns: until all have ended, and the clock goes on between them; whose the turns were.
func takeTurns(t *testing.T, draw func(int) int, l []*running, a *arena.Arena) []int {
	t.Helper()
	var order []int
	for slices.ContainsFunc(l, func(r *running) bool { return !r.over }) {
		i := draw(len(l) + 1)
		if i == len(l) {
			a.Poke(clock, a.Peek(clock)+1)
			continue
		}
		if !l[i].over {
			order = append(order, i)
		}
		l[i].turn(t, a)
	}
	return order
}

// orders: of so many turns of one and of another one: each order, true is the other one's.
func orders(one, other int, each func(order []bool)) {
	for set := range uint(1) << (one + other) {
		if bits.OnesCount(set) != other {
			continue
		}
		order := make([]bool, one+other)
		for i := range order {
			order[i] = set>>i&1 == 1
		}
		each(order)
	}
}

// TestEachOrderOfTwo: of eight steps each, where two cells are left, one, none.
func TestEachOrderOfTwo(t *testing.T) {
	for count := 2; count <= 4; count++ {
		base := laid(t, two(), 16, 6, count)
		wasKey := func(i int) int { return base.Peek(24 + 3*i) }
		wasData := func(i int) int { return base.Peek(25 + 3*i) }
		orders(8, 8, func(order []bool) {
			a := base.Copy()
			one, other := begun(two(), asked{16, 5, 77}), begun(two(), asked{16, 5, 78})
			var counted []*running
			for _, others := range order {
				r := one
				if others {
					r = other
				}
				if r.over {
					continue
				}
				if r.turn(t, a); len(r.done) == 2 {
					counted = append(counted, r)
				}
			}
			for i, r := range counted {
				r.follows(t, "P15.1: one of two", wasKey, wasData)
				if got := r.done[1].Old; got != count+i {
					t.Errorf("P15.1: behind %d of two: %d", i, got)
				}
			}
			if len(counted) != 2 || a.Peek(17) != count+2 {
				t.Errorf("P15.1: %d of two, the count is %d", len(counted), a.Peek(17))
			}
		})
	}
}

// TestInTwoChunks: each one goes as if it were alone.
func TestInTwoChunks(t *testing.T) {
	draw := drawer(3)
	for range 500 {
		a := laid(t, two(), 16, 6, draw(5))
		for at := range 19 {
			a.Poke(40+at, 0)
		}
		a.Poke(41, draw(5))
		l := []*running{begun(two(), asked{16, 5, 77}), begun(two(), asked{40, 30, 78})}
		wants := [2]*memory{{words: a.Copy()}, {words: a.Copy()}}
		for i, m := range wants {
			lines(two(), l[i].asked, m)
		}
		for !l[0].over || !l[1].over {
			l[draw(2)].turn(t, a)
		}
		for i, r := range l {
			if !slices.Equal(r.done, wants[i].done) {
				t.Errorf("P15.1: in chunk %d: %v, not %v", i, r.done, wants[i].done)
			}
		}
	}
}

// TestAnArenaIsNotKept: each step asks the one that it is handed.
func TestAnArenaIsNotKept(t *testing.T) {
	x := it().put(two())
	var got []api.Access
	for i, over := 0, false; !over; i++ {
		a := laid(t, two(), 16, 40+i, 2)
		a.Poke(29, []int{0, 0, 0, 0, 0, 5, 1, 13}[i])
		var y api.Access
		y, over = step(t, x, a)
		got = append(got, y)
		for at := range a.Len() {
			a.Poke(at, 1)
		}
	}
	want := []api.Access{load(22, 0), add(17, 2), store(30, 1030, 5), store(31, 1031, 77), swap(29, 0, 1), load(1, 45), swap(29, 1, 48), load(29, 13)}
	if !slices.Equal(got, want) {
		t.Errorf("P15.1: of many arenas: %v, not %v", got, want)
	}
	is(t, "P15.1: of many arenas", x, given(10, 2))
}

// TestNobodyElseIsAsked: other threads, words, versions that may be, and the words of others don't matter.
func TestNobodyElseIsAsked(t *testing.T) {
	a := laid(t, two(), 16, 6, 1)
	want := it().whole(a, 1, 6)
	for _, n := range append(noNumbers(), 0, 1, 2, 3, 9) {
		b := a.Copy()
		for at := range b.Len() {
			if at != clock && at != 17 && at != 22 && (at < 26 || at > 28) {
				b.Poke(at, n)
			}
		}
		tells(t, fmt.Sprint("P15.1: other words are ", n), two(), it(), b, given(6, 1), want)
	}
	for _, c := range confs() {
		if c.Cap == 4 {
			tells(t, fmt.Sprintf("P15.1: %+v", c), c, it(), a, given(6, 1), want)
		}
	}
}

// TestPutsAreTheirOwn: two that are made alike share nothing.
func TestPutsAreTheirOwn(t *testing.T) {
	one, other := it().put(two()), it().put(two())
	a := laid(t, two(), 16, 6, 1)
	for !one.Step(a) {
	}
	is(t, "P15.1: one that hasn't begun", other, unplaced())
	b := laid(t, two(), 16, 8, 3)
	for !other.Step(b) {
	}
	is(t, "P15.1: one", one, given(6, 1))
	is(t, "P15.1: the other one", other, given(8, 3))
}

// P15.2: what is posted will have a version, whoever gives it

// looking: at the first cell of the chunk at 16, as a reader does: who meets it posted gives it the version that counts; version -1: it met none.
type looking struct {
	line, state, clock, version int
	key, data                   int
	over                        bool
}

func newLooking() *looking { return &looking{version: -1} }

func (l *looking) turn(a *arena.Arena) {
	if l.over {
		return
	}
	switch l.line {
	case 0:
		l.over = a.Load(17) < 1
	case 1:
		l.state = a.Load(23)
		l.over = l.state == 0 || l.state == 2
	case 2:
		if l.key = a.Load(24); l.state > 2 {
			l.line = 5
		}
	case 3:
		l.clock = a.Load(clock)
	case 4:
		a.Swap(23, 1, 3+l.clock)
	case 5:
		l.state = a.Load(23)
	case 6:
		l.data, l.version, l.over = a.Load(25), l.state-3, true
	}
	l.line++
}

// sealing: the first cell of the chunk at 16, as whoever rebuilds the chunk does: if it is empty it is dead then, if it is posted it has a version.
type sealing struct {
	line, clock int
	over        bool
}

func (s *sealing) turn(a *arena.Arena) {
	if s.over {
		return
	}
	switch s.line {
	case 0:
		a.Store(22, 1)
		s.line = 1
	case 1:
		state := a.Load(23)
		s.line, s.over = 2+state, state > 1
	case 2:
		a.Swap(23, 0, 2)
		s.line = 1
	case 3:
		s.clock = a.Load(clock)
		s.line = 4
	case 4:
		a.Swap(23, 1, 3+s.clock)
		s.line = 1
	}
}

// ticking: the clock is counted on twice, as two scans do.
type ticking struct{ done int }

func (k *ticking) turn(a *arena.Arena) {
	if k.done < 2 {
		a.Add(clock, 1)
		k.done++
	}
}

// another one that is under way.
type another interface{ turn(a *arena.Arena) }

// inOrder: a put in the first cell and another one, then each to its end.
func inOrder(t *testing.T, a *arena.Arena, order []bool, x another) *running {
	t.Helper()
	r := begun(two(), it())
	for _, others := range order {
		switch {
		case others:
			x.turn(a)
		case !r.over:
			r.turn(t, a)
		}
	}
	r.toItsEnd(t, a)
	for range 9 {
		x.turn(a)
	}
	return r
}

// hasIts: the put's version is its cell's, and counted during the put; it was given by whoever came first.
func (r *running) hasIts(t *testing.T, what string, a *arena.Arena, from int) {
	t.Helper()
	version, ok := r.Version()
	if got, want := [3]int{a.Peek(23), a.Peek(24), a.Peek(25)}, [3]int{3 + version, 5, 77}; !ok || got != want || r.Place() != 0 {
		t.Errorf("%s: version %d, %v, the cell is %v: %v", what, version, ok, got, r.done)
	}
	if version < from || version > a.Peek(clock) {
		t.Errorf("%s: version %d of a clock from %d to %d", what, version, from, a.Peek(clock))
	}
	if len(r.done) != 8 || r.done[6].Ok && version != r.done[5].Old {
		t.Errorf("%s: version %d behind %v", what, version, r.done)
	}
}

// TestEachOrderWithALook: who meets it tells its version, and what it holds.
func TestEachOrderWithALook(t *testing.T) {
	helped, met := 0, 0
	orders(8, 7, func(order []bool) {
		a, l := laid(t, two(), 16, 6, 0), newLooking()
		r := inOrder(t, a, order, l)
		r.hasIts(t, "P15.2: with a look", a, 6)
		if !r.done[6].Ok {
			helped++
		}
		if l.version < 0 {
			return
		}
		met++
		if l.version != told(r.Cell).version || l.key != 5 || l.data != 77 {
			t.Errorf("P15.2: version %d, a look met version %d, key %d, data %d", told(r.Cell).version, l.version, l.key, l.data)
		}
	})
	if helped < 100 || met < 300 {
		t.Errorf("P15.2: %d are helped, %d are met", helped, met)
	}
}

// TestEachOrderWithAClock that is counted on: the version is the one that counted at its line 6.
func TestEachOrderWithAClock(t *testing.T) {
	orders(8, 2, func(order []bool) {
		a, puts, ticks := laid(t, two(), 16, 6, 0), 0, 0
		for _, others := range order {
			if !others {
				puts++
			} else if puts < 6 {
				ticks++
			}
		}
		r := inOrder(t, a, order, &ticking{})
		r.hasIts(t, "P15.2: with a clock", a, 6)
		is(t, fmt.Sprintf("P15.2: in order %v", order), r.Cell, given(6+ticks, 0))
	})
}

// TestEachOrderWithASeal: what is posted is kept, what isn't is in vain, and dead.
func TestEachOrderWithASeal(t *testing.T) {
	ends := map[int]int{}
	orders(8, 6, func(order []bool) {
		a, s := laid(t, two(), 16, 6, 0), &sealing{}
		r := inOrder(t, a, order, s)
		if !s.over {
			t.Fatal("P15.2: the seal hasn't ended")
		}
		if ends[len(r.done)]++; len(r.done) == 8 {
			r.hasIts(t, "P15.2: with a seal", a, 6)
			return
		}
		if want := noVersion(r.place()); a.Peek(23) != 2 || told(r.Cell) != want || r.Place() != min(len(r.done)-2, 0) {
			t.Errorf("P15.2: in vain with a seal: %+v, state %d, behind %v", told(r.Cell), a.Peek(23), r.done)
		}
	})
	if ends[1] < 50 || ends[5] < 50 || ends[8] < 50 || len(ends) != 3 {
		t.Errorf("P15.2: ends with a seal: %v", ends)
	}
}

// TestAPutThatIsLeft behind each of its steps: from its posting on it has the version that the next reader gives it, the put tells it whenever it goes on; ahead of it it has none, and no reader meets it.
func TestAPutThatIsLeft(t *testing.T) {
	for steps := range 9 {
		for _, now := range []int{0, 8, 50} {
			a, r, l := laid(t, two(), 16, 6, 0), begun(two(), it()), newLooking()
			for range steps {
				r.turn(t, a)
			}
			a.Poke(clock, now)
			for range 9 {
				l.turn(a)
			}
			want := []int{-1, -1, -1, -1, -1, now, now, 6, 6}[steps]
			if l.version != want || (want >= 0 && (l.key != 5 || l.data != 77)) {
				t.Errorf("P15.2: left behind %d steps: %+v, not version %d", steps, l, want)
			}
			a.Poke(clock, 60)
			r.toItsEnd(t, a)
			if want < 0 {
				want = 60
			}
			is(t, fmt.Sprintf("P15.2: it goes on behind %d steps", steps), r.Cell, given(want, 0))
		}
	}
}

// TestAnotherPutIsLeft behind each of its steps, for ever: those that come later hold their lines, in cells of their own.
func TestAnotherPutIsLeft(t *testing.T) {
	for steps := range 9 {
		a, left := made(t, two()), begun(two(), asked{16, 9, 99})
		for range steps {
			left.turn(t, a)
		}
		taken := 0
		if steps > 1 {
			taken = 1
		}
		for i := taken; i < 4; i++ {
			a.Poke(clock, i)
			tells(t, fmt.Sprintf("P15.2: another one is left behind %d steps", steps), two(), it(), a, given(i, i), it().whole(a, i, i))
			amid(t, two(), it(), a)
		}
		tells(t, "P15.2: the chunk is full", two(), it(), a, unplaced(), []api.Access{load(22, 0), add(17, 4)})
	}
}

// TestManyOthers: puts, readers, one that seals, and a clock that goes on, as drawn: each put that has posted its cell has its version, each other one is in vain.
func TestManyOthers(t *testing.T) {
	draw, ends, helped := drawer(4), map[int]int{}, 0
	for range 3000 {
		a := laid(t, two(), 16, 6, 0)
		r := begun(two(), it())
		others := []another{newLooking(), newLooking(), newLooking(), &ticking{}, &ticking{}, &sealing{}}
		wait := draw(30)
		for i := 0; !r.over; i++ {
			switch who := draw(len(others) + 2); {
			case who >= len(others):
				r.turn(t, a)
			case i > wait || who < 5:
				others[who].turn(a)
			}
		}
		for range 9 {
			for _, x := range others {
				x.turn(a)
			}
		}
		if ends[len(r.done)]++; len(r.done) < 8 {
			if _, ok := r.Version(); ok || a.Peek(23) != 2 {
				t.Errorf("P15.2: in vain among many: %+v, state %d, behind %v", told(r.Cell), a.Peek(23), r.done)
			}
			continue
		}
		r.hasIts(t, "P15.2: among many", a, 6)
		if !r.done[6].Ok {
			helped++
		}
		for _, x := range others[:3] {
			if l := x.(*looking); l.version >= 0 && l.version != told(r.Cell).version {
				t.Errorf("P15.2: version %d, a look met version %d", told(r.Cell).version, l.version)
			}
		}
	}
	if ends[1] < 50 || ends[5] < 100 || ends[8] < 1000 || helped < 100 {
		t.Errorf("P15.2: ends among many: %v, %d are helped", ends, helped)
	}
}

// Wrong inputs

// TestAnyInputs: of these nothing is promised but that no call panics, and that a step is one access at most.
func TestAnyInputs(t *testing.T) {
	bad := []api.Conf{{}, {Threads: -1, Cap: -1, Words: -1, Versions: -1}, {Threads: math.MaxInt, Cap: math.MaxInt, Words: math.MaxInt, Versions: math.MaxInt}, {Threads: math.MinInt, Cap: math.MinInt}, two()}
	for _, c := range bad {
		for _, at := range append(noNumbers(), 0, 1, 2, 16) {
			for _, n := range append(noNumbers(), 0, 5) {
				for _, word := range append(noNumbers(), 0, 1, 2, 3) {
					a := arena.New(24)
					for at := range a.Len() {
						a.Poke(at, word)
					}
					anySteps(t, New(c, at, n, word), a)
				}
				anySteps(t, New(c, at, n, n), arena.New(30))
				anySteps(t, New(c, n, at, at), arena.New(-1))
			}
		}
	}
	anySteps(t, new(Cell), arena.New(20))
}

func anySteps(t *testing.T, x *Cell, a *arena.Arena) {
	t.Helper()
	for i := range 10 {
		n, was := a.Accesses(), words(a)
		over := x.Step(a)
		if a.Accesses() > n+1 || !over && a.Accesses() == n || i > 7 && (!over || a.Accesses() != n || !slices.Equal(words(a), was)) {
			t.Fatalf("P15.1: %+v: ended %v, %d accesses", x, over, a.Accesses()-n)
		}
		if version, ok := x.Version(); ok && (!over || version < 0) || !ok && version != 0 {
			t.Fatalf("P15.1: %+v: ended %v, version %d, %v", x, over, version, ok)
		}
	}
}
