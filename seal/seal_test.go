package seal

import (
	"fmt"
	"math"
	"slices"
	"testing"

	"armillary/api"
	"armillary/arena"
	"armillary/place"
)

// two threads, chunks of four cells, of 19 words each: at 16, 35, 54 and so on. A chunk's FStatus lies 6 behind its place, its cells' states 7, 10, 13, 16. The clock is at 1.
func two() api.Conf { return api.Conf{Threads: 2, Cap: 4, Words: 112, Versions: 100} }

// single: one thread, chunks of three cells.
func single() api.Conf { return api.Conf{Threads: 1, Cap: 3, Words: 60, Versions: 100} }

const (
	one   = 16
	other = 35
	third = 54
	clock = 1
)

// greatest version that a word holds.
const greatest = 1<<24 - 4

// confs: each number of threads, each number of cells that may be.
func confs() []api.Conf {
	var l []api.Conf
	for threads := 1; threads <= api.MaxThreads; threads++ {
		for cells := threads + 2; cells <= api.MaxCap; cells++ {
			l = append(l, api.Conf{Threads: threads, Cap: cells, Words: 130, Versions: 1})
		}
	}
	return l
}

// first: where the document lays the first chunk.
func first(c api.Conf) int { return 3 + c.Threads + 4 + 7 }

// noNumbers: of places and words, those that are none.
func noNumbers() []int {
	return []int{math.MinInt, math.MinInt + 1, -1 << 62, -1 << 40, -20000, -64, -17, -7, -3, -2, -1, 20000, 20001, 1 << 40, 1 << 62, math.MaxInt - 6, math.MaxInt - 3, math.MaxInt - 1, math.MaxInt}
}

func made(t *testing.T, c api.Conf) *arena.Arena {
	t.Helper()
	a, err := place.Make(c)
	if err != nil {
		t.Fatalf("P3.2: Make of %+v: %v", c, err)
	}
	return a
}

// junk: an arena whose every word is another one, so that each cell has a version, and that has some accesses behind it.
func junk(t *testing.T, c api.Conf) *arena.Arena {
	t.Helper()
	a := made(t, c)
	a.Store(0, 5)
	a.Swap(0, 5, 6)
	for at := range a.Len() {
		a.Poke(at, 1000+at)
	}
	return a
}

// lay a chunk's FStatus, and its cells' states.
func lay(a *arena.Arena, chunk, status int, states ...int) {
	a.Poke(chunk+6, status)
	for i, state := range states {
		a.Poke(chunk+7+3*i, state)
	}
}

// laid: such an arena, with this clock, and a chunk, of these states, that takes puts.
func laid(t *testing.T, now int, states ...int) *arena.Arena {
	t.Helper()
	a := junk(t, two())
	a.Poke(clock, now)
	lay(a, one, 0, states...)
	return a
}

// both: likewise, with its mate.
func both(t *testing.T, now int, states, mates []int) *arena.Arena {
	t.Helper()
	a := laid(t, now, states...)
	lay(a, other, 0, mates...)
	return a
}

func load(at, word int) api.Access { return api.Access{Kind: api.KLoad, At: at, Old: word, New: word} }

func store(at, old, word int) api.Access {
	return api.Access{Kind: api.KStore, At: at, Old: old, New: word}
}

// swap: one that is done; vain: one that found that word.
func swap(at, old, word int) api.Access {
	return api.Access{Kind: api.KSwap, At: at, Old: old, New: word, Ok: true}
}

func vain(at, word int) api.Access {
	return api.Access{Kind: api.KSwap, At: at, Old: word, New: word}
}

// sealed: what is done to a cell of that state, while that version counts, if nobody else does anything.
func sealed(at, state, version int) []api.Access {
	switch state {
	case 0:
		return []api.Access{load(at, 0), swap(at, 0, 2), load(at, 2)}
	case 1:
		return []api.Access{load(at, 1), load(clock, version), swap(at, 1, 3+version), load(at, 3+version)}
	}
	return []api.Access{load(at, state)}
}

// asked: what a seal is made of.
type asked struct{ chunk, mate int }

// alone: the chunk at 16 without a mate; it: with the one at 35.
func alone() asked { return asked{one, 0} }

func it() asked { return asked{one, other} }

func (x asked) chunks() []int {
	if x.mate == 0 {
		return []int{x.chunk}
	}
	return []int{x.chunk, x.mate}
}

// whole: all its accesses, if nobody else does anything. The chunks have no word in common.
func (x asked) whole(c api.Conf, a *arena.Arena) []api.Access {
	var l []api.Access
	for _, chunk := range x.chunks() {
		l = append(l, store(chunk+6, a.Peek(chunk+6), 1))
	}
	for _, chunk := range x.chunks() {
		for i := range c.Cap {
			at := chunk + 7 + 3*i
			l = append(l, sealed(at, a.Peek(at), a.Peek(clock))...)
		}
	}
	return l
}

func words(a *arena.Arena) []int {
	l := make([]int, a.Len())
	for at := range l {
		l[at] = a.Peek(at)
	}
	return l
}

// step: one that isn't behind the end: its access, and whether it has ended. It is one access, and changes no word but the one that it tells.
func step(t *testing.T, s *Seal, a *arena.Arena) (api.Access, bool) {
	t.Helper()
	want, n := words(a), a.Accesses()
	over := s.Step(a)
	last := a.Last()
	if a.Accesses() != n+1 {
		t.Fatalf("P17.1: a step of %d accesses, the last one %+v", a.Accesses()-n, last)
	}
	if last.At >= 0 && last.At < len(want) {
		want[last.At] = last.New
	}
	if !slices.Equal(words(a), want) {
		t.Fatalf("P17.1: %+v changes another word", last)
	}
	return last, over
}

// behind its end: no access, nothing changed, true, whatever the words are by now.
func behind(t *testing.T, s *Seal, a *arena.Arena) {
	t.Helper()
	posted, zero := a.Copy(), a.Copy()
	for at := range a.Len() {
		posted.Poke(at, 1)
		zero.Poke(at, 0)
	}
	for _, b := range []*arena.Arena{a, a, posted, zero, arena.New(1), a} {
		was, n, last := words(b), b.Accesses(), b.Last()
		if !s.Step(b) {
			t.Error("P17.1: behind its end Step tells false")
		}
		if b.Accesses() != n || b.Last() != last || !slices.Equal(words(b), was) {
			t.Errorf("P17.1: behind its end Step does something: %+v", b.Last())
		}
	}
}

// script: P17.1's lines, told once more, each access by the word that it found; over, once they have ended.
type script struct {
	words int // that are there
	found []int
	done  []api.Access
	over  bool
}

// noMore words have been found.
type noMore struct{}

func lines(c api.Conf, x asked, words int, found []int) (s *script) {
	s = &script{words: words, found: found}
	defer func() {
		if r := recover(); r != nil && r != (noMore{}) {
			panic(r)
		}
	}()
	for _, chunk := range x.chunks() {
		s.store(chunk+6, 1)
	}
	for _, chunk := range x.chunks() {
		for i := range c.Cap {
			s.cell(chunk + 7 + 3*i)
		}
	}
	s.over = true
	return s
}

func (s *script) cell(at int) {
	for {
		switch s.load(at) {
		case 0:
			s.swap(at, 0, 2)
		case 1:
			g := s.load(clock)
			s.swap(at, 1, 3+min(max(g, 0), greatest))
		default:
			return
		}
	}
}

// next word that was found, at that place; 0, if it isn't there.
func (s *script) next(at int) (int, bool) {
	if len(s.done) == len(s.found) {
		panic(noMore{})
	}
	if at < 0 || at >= s.words {
		return 0, false
	}
	return s.found[len(s.done)], true
}

func (s *script) load(at int) int {
	word, _ := s.next(at)
	s.done = append(s.done, load(at, word))
	return word
}

func (s *script) store(at, word int) {
	was, there := s.next(at)
	if !there {
		word = 0
	}
	s.done = append(s.done, store(at, was, word))
}

func (s *script) swap(at, old, word int) {
	was, there := s.next(at)
	if !there || was != old {
		s.done = append(s.done, vain(at, was))
		return
	}
	s.done = append(s.done, swap(at, old, word))
}

// running: a seal that is under way, and what it did.
type running struct {
	*Seal
	conf  api.Conf
	asked asked
	done  []api.Access
	over  bool
}

func begun(c api.Conf, x asked) *running {
	return &running{Seal: New(c, x.chunk, x.mate), conf: c, asked: x}
}

// turn: its next step, or one behind its end. By the words that it found, it does what the lines say, however the others go.
func (r *running) turn(t *testing.T, a *arena.Arena) {
	t.Helper()
	if r.over {
		behind(t, r.Seal, a)
		return
	}
	var x api.Access
	x, r.over = step(t, r.Seal, a)
	r.done = append(r.done, x)
	r.follows(t, a.Len())
}

func (r *running) follows(t *testing.T, words int) {
	t.Helper()
	var found []int
	for _, x := range r.done {
		found = append(found, x.Old)
	}
	s := lines(r.conf, r.asked, words, found)
	if !slices.Equal(r.done, s.done) || r.over != s.over {
		t.Fatalf("P17.1: %+v: %v, ended %v, not %v, %v", r.asked, r.done, r.over, s.done, s.over)
	}
}

// toItsEnd: at each cell at most six steps, where the others do no more to it than put and seal; some more, where it is changed as drawn.
func (r *running) toItsEnd(t *testing.T, a *arena.Arena) {
	t.Helper()
	for !r.over {
		if r.turn(t, a); len(r.done) > 200 {
			t.Fatalf("P17.1: %+v doesn't end behind %v", r.asked, r.done)
		}
	}
}

// change: between this step (of so many that are behind it) and the next one, by others.
type change struct{ behind, at, word int }

func do(a *arena.Arena, changes []change, behind int) {
	for _, x := range changes {
		if x.behind == behind {
			a.Poke(x.at, x.word)
		}
	}
}

// amid: all of a seal, while a is changed, also behind the end.
func amid(t *testing.T, c api.Conf, x asked, a *arena.Arena, changes ...change) *running {
	t.Helper()
	r := begun(c, x)
	for !r.over {
		do(a, changes, len(r.done))
		if r.turn(t, a); len(r.done) > 200 {
			t.Fatalf("P17.1: %+v doesn't end amid %v", r.asked, changes)
		}
	}
	do(a, changes, len(r.done))
	behind(t, r.Seal, a)
	return r
}

// does these accesses; likewise when it is asked again, as it was. Behind them no cell of its chunks is empty or posted, and their FStatus is 1.
func does(t *testing.T, what string, c api.Conf, x asked, a *arena.Arena, want []api.Access) {
	t.Helper()
	for range 2 {
		b := a.Copy()
		if r := amid(t, c, x, b); !slices.Equal(r.done, want) {
			t.Errorf("%s: %+v: %v, not %v", what, x, r.done, want)
		}
		isSealed(t, what, c, x, b)
	}
}

func isSealed(t *testing.T, what string, c api.Conf, x asked, a *arena.Arena) {
	t.Helper()
	for _, chunk := range x.chunks() {
		if got := a.Peek(chunk + 6); got != 1 {
			t.Errorf("%s: %+v: the status of %d is %d", what, x, chunk, got)
		}
		for i := range c.Cap {
			if got := a.Peek(chunk + 7 + 3*i); got == 0 || got == 1 {
				t.Errorf("%s: %+v: cell %d of %d is of state %d", what, x, i, chunk, got)
			}
		}
	}
}

// P17.1: the lines

// TestANewArena: each conf's first chunk, all of whose cells are dead then; with a chunk behind it, too, as far as there is room.
func TestANewArena(t *testing.T) {
	for _, c := range confs() {
		a, x := made(t, c), asked{first(c), 0}
		at := x.chunk + 7
		want := []api.Access{store(x.chunk+6, 0, 1)}
		for range c.Cap {
			want = append(want, load(at, 0), swap(at, 0, 2), load(at, 2))
			at += 3
		}
		does(t, fmt.Sprintf("P17.1: %+v", c), c, x, a, want)
		x.mate = at
		a = arena.New(at + 7 + 3*c.Cap)
		want = slices.Insert(want, 1, store(at+6, 0, 1))
		for i := range c.Cap {
			at := x.mate + 7 + 3*i
			want = append(want, load(at, 0), swap(at, 0, 2), load(at, 2))
		}
		does(t, fmt.Sprintf("P17.1: %+v, with its mate", c), c, x, a, want)
	}
}

// TestWordByWord: all six lines, in numbers.
func TestWordByWord(t *testing.T) {
	a := made(t, two())
	a.Poke(1, 6)
	a.Poke(22, 0)
	a.Poke(23, 5)
	a.Poke(29, 1)
	a.Poke(32, 2)
	a.Poke(41, 2)
	a.Poke(42, 1)
	a.Poke(45, 3)
	a.Poke(51, 9)
	want := []api.Access{
		{Kind: api.KStore, At: 22, Old: 0, New: 1},
		{Kind: api.KStore, At: 41, Old: 2, New: 1},
		{Kind: api.KLoad, At: 23, Old: 5, New: 5},
		{Kind: api.KLoad, At: 26, Old: 0, New: 0},
		{Kind: api.KSwap, At: 26, Old: 0, New: 2, Ok: true},
		{Kind: api.KLoad, At: 26, Old: 2, New: 2},
		{Kind: api.KLoad, At: 29, Old: 1, New: 1},
		{Kind: api.KLoad, At: 1, Old: 6, New: 6},
		{Kind: api.KSwap, At: 29, Old: 1, New: 9, Ok: true},
		{Kind: api.KLoad, At: 29, Old: 9, New: 9},
		{Kind: api.KLoad, At: 32, Old: 2, New: 2},
		{Kind: api.KLoad, At: 42, Old: 1, New: 1},
		{Kind: api.KLoad, At: 1, Old: 6, New: 6},
		{Kind: api.KSwap, At: 42, Old: 1, New: 9, Ok: true},
		{Kind: api.KLoad, At: 42, Old: 9, New: 9},
		{Kind: api.KLoad, At: 45, Old: 3, New: 3},
		{Kind: api.KLoad, At: 48, Old: 0, New: 0},
		{Kind: api.KSwap, At: 48, Old: 0, New: 2, Ok: true},
		{Kind: api.KLoad, At: 48, Old: 2, New: 2},
		{Kind: api.KLoad, At: 51, Old: 9, New: 9},
	}
	does(t, "P17.1: word by word", two(), it(), a, want)
	does(t, "P17.1: word by word, alone", two(), alone(), a, slices.Concat(want[:1], want[2:11]))
}

// TestStatuses: whatever they are, frozen already or replaced, they are 1 then, and the cells are gone through.
func TestStatuses(t *testing.T) {
	statuses := append(noNumbers(), 0, 1, 2, 3, 4)
	for _, status := range statuses {
		a := laid(t, 6, 0, 1, 2, 3)
		a.Poke(one+6, status)
		want := slices.Concat([]api.Access{store(22, status, 1)}, sealed(23, 0, 6), sealed(26, 1, 6), sealed(29, 2, 6), sealed(32, 3, 6))
		does(t, fmt.Sprintf("P17.1: status %d", status), two(), alone(), a, want)
		for _, mates := range statuses {
			a := both(t, 6, []int{3, 3, 3, 0}, []int{1, 2, 2, 2})
			a.Poke(one+6, status)
			a.Poke(other+6, mates)
			want := slices.Concat([]api.Access{store(22, status, 1), store(41, mates, 1), load(23, 3), load(26, 3), load(29, 3)}, sealed(32, 0, 6),
				sealed(42, 1, 6), []api.Access{load(45, 2), load(48, 2), load(51, 2)})
			does(t, fmt.Sprintf("P17.1: statuses %d, %d", status, mates), two(), it(), a, want)
		}
	}
}

// TestEachCell of each state, among dead ones, given ones, posted ones, empty ones.
func TestEachCell(t *testing.T) {
	for _, state := range append(noNumbers(), 0, 1, 2, 3, 4, 9, greatest+2, greatest+3, greatest+4) {
		for _, among := range []int{0, 1, 2, 3, 9} {
			for i := range 8 {
				states := slices.Repeat([]int{among}, 8)
				states[i] = state
				a := both(t, 6, states[:4], states[4:])
				want := []api.Access{store(22, 0, 1), store(41, 0, 1)}
				for j, x := range states {
					want = append(want, sealed([]int{23, 26, 29, 32, 42, 45, 48, 51}[j], x, 6)...)
				}
				does(t, fmt.Sprintf("P17.1: cell %d of state %d among %d", i, state, among), two(), it(), a, want)
			}
		}
	}
}

// TestMixtures: each one of empty, posted, dead and given ones, in a chunk alone, and with its mate.
func TestMixtures(t *testing.T) {
	kinds := []int{0, 1, 2, 3, 9}
	for n := range 5 * 5 * 5 * 5 {
		a := laid(t, 6, kinds[n%5], kinds[n/5%5], kinds[n/25%5], kinds[n/125])
		does(t, "P17.1: a mixture", two(), alone(), a, alone().whole(two(), a))
	}
	x := asked{15, 31}
	for n := range 4 * 4 * 4 * 4 * 4 * 4 {
		a := junk(t, single())
		a.Poke(clock, n%7)
		lay(a, 15, 0, kinds[n%4], kinds[n/4%4], kinds[n/16%4])
		lay(a, 31, 0, kinds[n/64%4], kinds[n/256%4], kinds[n/1024])
		want := x.whole(single(), a)
		if r := amid(t, single(), x, a); !slices.Equal(r.done, want) {
			t.Errorf("P17.1: a mixture: %v, not %v", r.done, want)
		}
		isSealed(t, "P17.1: a mixture", single(), x, a)
	}
}

// TestClocks: at 0, and counted on; what no version is is held.
func TestClocks(t *testing.T) {
	for _, now := range append(noNumbers(), 0, 1, 2, 3, 99, 100, 101, api.MaxVersions-1, api.MaxVersions, greatest-1, greatest, greatest+1, greatest+2, greatest+3, 1<<24) {
		has := 3 + min(max(now, 0), greatest)
		a := both(t, now, []int{2, 0, 1, 3}, []int{1, 3, 3, 3})
		want := []api.Access{
			store(22, 0, 1), store(41, 0, 1), load(23, 2), load(26, 0), swap(26, 0, 2), load(26, 2),
			load(29, 1), load(1, now), swap(29, 1, has), load(29, has), load(32, 3),
			load(42, 1), load(1, now), swap(42, 1, has), load(42, has), load(45, 3), load(48, 3), load(51, 3),
		}
		does(t, fmt.Sprint("P17.1: clock ", now), two(), it(), a, want)
	}
}

// TestPlaces: chunks wherever they lie, the mate ahead of the chunk, too; alone likewise.
func TestPlaces(t *testing.T) {
	for chunk := 2; chunk <= 112-19; chunk++ {
		x := asked{chunk, 0}
		a := junk(t, two())
		a.Poke(clock, 6)
		lay(a, chunk, 2, 1, 0, 2, 1)
		does(t, fmt.Sprint("P17.1: a chunk at ", chunk), two(), x, a, x.whole(two(), a))
		for mate := 2; mate <= 112-19; mate++ {
			if max(chunk-mate, mate-chunk) < 19 {
				continue
			}
			x, b := asked{chunk, mate}, a.Copy()
			lay(b, mate, 0, 0, 7, 1, 0)
			want := x.whole(two(), b)
			if r := amid(t, two(), x, b); !slices.Equal(r.done, want) {
				t.Errorf("P17.1: chunks at %d and %d: %v, not %v", chunk, mate, r.done, want)
			}
		}
	}
}

// TestAMateOfNone: any number but 0 is one: also one that lead never chooses, and the chunk itself, which is gone through twice then.
func TestAMateOfNone(t *testing.T) {
	a := laid(t, 6, 0, 1, 2, 3)
	want := slices.Concat([]api.Access{store(22, 0, 1), store(22, 1, 1)}, sealed(23, 0, 6), sealed(26, 1, 6),
		[]api.Access{load(29, 2), load(32, 3), load(23, 2), load(26, 9), load(29, 2), load(32, 3)})
	does(t, "P17.1: its own mate", two(), asked{one, one}, a, want)
	a = laid(t, 6, 3, 3, 3, 2)
	lay(a, 1, 2, 0, 1, 2, 4) // its cells are at 8, 11, 14, 17
	want = slices.Concat([]api.Access{store(22, 0, 1), store(7, 2, 1), load(23, 3), load(26, 3), load(29, 3), load(32, 2)},
		sealed(8, 0, 6), sealed(11, 1, 6), []api.Access{load(14, 2), load(17, 4)})
	does(t, "P17.1: a mate at 1", two(), asked{one, 1}, a, want)
	lay(a, 0, 2, 0, 1, 2, 4) // its cells are at 7, 10, 13, 16
	want = slices.Concat([]api.Access{store(6, 2, 1), store(22, 0, 1)}, sealed(7, 0, 6), sealed(10, 1, 6),
		[]api.Access{load(13, 2), load(16, 4), load(23, 3), load(26, 3), load(29, 3), load(32, 2)})
	does(t, "P17.1: a chunk at 0", two(), asked{0, one}, a, want)
	lay(a, 0, 2, 0, 1, 2, 4)
	want = slices.Concat([]api.Access{store(6, 2, 1)}, sealed(7, 0, 6), sealed(10, 1, 6), []api.Access{load(13, 2), load(16, 4)})
	does(t, "P17.1: a chunk at 0, alone", two(), asked{0, 0}, a, want)
	a = laid(t, 6, 3, 3, 3, 3)
	lay(a, -4, 1002, 2, 1, 0, 8) // its status is at 2, its cells are at 3, 6, 9, 12
	want = slices.Concat([]api.Access{store(22, 0, 1), store(2, 1002, 1), load(23, 3), load(26, 3), load(29, 3), load(32, 3), load(3, 2)},
		sealed(6, 1, 6), sealed(9, 0, 6), []api.Access{load(12, 8)})
	does(t, "P17.1: a mate below 0, whose cells are there", two(), asked{one, -4}, a, want)
}

// TestWithoutAMate: no access of any other chunk, whatever it is, be it the one behind.
func TestWithoutAMate(t *testing.T) {
	a := both(t, 6, []int{0, 1, 2, 3}, []int{0, 1, 0, 1})
	lay(a, third, 0, 1, 1, 0, 0)
	a.Poke(one+2, 2*other+1)
	a.Poke(one+3, one)
	a.Poke(one+4, other)
	r := amid(t, two(), alone(), a.Copy())
	for _, x := range r.done {
		if x.At != clock && (x.At < one || x.At >= other) {
			t.Errorf("P17.1: mate 0: %+v", x)
		}
	}
	does(t, "P17.1: mate 0", two(), alone(), a, alone().whole(two(), a))
}

// TestChunksThatAreNotThere: their cells are empty for ever: each step is an access, none changes a word; cells that are there are sealed ahead of those.
func TestChunksThatAreNotThere(t *testing.T) {
	for _, chunk := range append(noNumbers(), 112, 1000) {
		if chunk < 0 && chunk >= -19 {
			continue
		}
		r, a := begun(two(), asked{chunk, 0}), junk(t, two())
		was := words(a)
		want := []api.Access{{Kind: api.KStore, At: chunk + 6}}
		for range 20 {
			want = append(want, load(chunk+7, 0), vain(chunk+7, 0))
		}
		for range want {
			r.turn(t, a)
		}
		if !slices.Equal(r.done, want) || r.over || !slices.Equal(words(a), was) {
			t.Errorf("P17.1: a chunk at %d: %v, ended %v", chunk, r.done, r.over)
		}
	}
	r, a := begun(two(), asked{one, 97}), laid(t, 6, 0, 3, 3, 1)
	lay(a, 97, 0, 1, 2)
	a.Poke(110, 0)
	want := slices.Concat([]api.Access{store(22, 0, 1), store(103, 0, 1)}, sealed(23, 0, 6), []api.Access{load(26, 3), load(29, 3)}, sealed(32, 1, 6),
		sealed(104, 1, 6), []api.Access{load(107, 2)}, sealed(110, 0, 6), []api.Access{load(113, 0), vain(113, 0), load(113, 0), vain(113, 0)})
	for range want {
		r.turn(t, a)
	}
	if !slices.Equal(r.done, want) || r.over {
		t.Errorf("P17.1: a mate whose last cell isn't there: %v, not %v", r.done, want)
	}
}

// TestWhatIsTouched: the FStatus of the two, and the states of cells that are empty or posted, no other word.
func TestWhatIsTouched(t *testing.T) {
	for _, x := range []asked{alone(), it(), {other, one}, {third, one}, {one, 73}, {73, 0}} {
		for n := range 625 {
			a := junk(t, two())
			a.Poke(clock, 6)
			kinds := []int{0, 1, 2, 3, 9}
			for _, chunk := range []int{one, other, third, 73} {
				lay(a, chunk, n%3, kinds[n%5], kinds[n/5%5], kinds[n/25%5], kinds[(n/125+chunk)%5])
			}
			want := words(a)
			for _, chunk := range x.chunks() {
				want[chunk+6] = 1
				for i := range 4 {
					switch at := chunk + 7 + 3*i; want[at] {
					case 0:
						want[at] = 2
					case 1:
						want[at] = 9
					}
				}
			}
			amid(t, two(), x, a)
			if got := words(a); !slices.Equal(got, want) {
				t.Errorf("P17.1: %+v: %v, not %v", x, got, want)
			}
		}
	}
}

// TestSealedAgain nothing changes, but an FStatus that isn't 1 any more.
func TestSealedAgain(t *testing.T) {
	for n := range 625 {
		kinds := []int{0, 1, 2, 3, 9}
		states := []int{kinds[n%5], kinds[n/5%5], kinds[n/25%5], kinds[n/125]}
		a := both(t, 6, states, states)
		amid(t, two(), it(), a)
		want := words(a)
		want[clock] = 60
		for _, now := range []int{60, 70} {
			a.Poke(clock, now)
			want[clock] = now
			r := amid(t, two(), it(), a)
			for _, x := range r.done {
				if x.Old != x.New || x.Kind == api.KSwap || x.At == clock {
					t.Errorf("P17.1: sealed again: %+v", x)
				}
			}
			if len(r.done) != 10 || !slices.Equal(words(a), want) {
				t.Errorf("P17.1: sealed again: %v, %v, not %v", r.done, words(a), want)
			}
		}
		a.Poke(one+6, 2)
		amid(t, two(), alone(), a)
		if !slices.Equal(words(a), want) {
			t.Errorf("P17.1: sealed again, behind its replacement: %v, not %v", words(a), want)
		}
	}
}

// TestTheEnd is told by the access of the last cell, and by none ahead of it.
func TestTheEnd(t *testing.T) {
	for x, steps := range map[asked]int{alone(): 12, it(): 25} {
		s, a := New(two(), x.chunk, x.mate), both(t, 6, []int{0, 1, 3, 0}, []int{0, 1, 3, 1})
		n := a.Accesses()
		for i := range steps + 5 {
			if over := s.Step(a); over != (i >= steps-1) || a.Accesses() != n+min(i+1, steps) {
				t.Errorf("P17.1: %+v: step %d: %v, %d accesses", x, i, over, a.Accesses()-n)
			}
		}
	}
}

// TestChangesBetweenSteps: what a line was told counts as it was then, and nothing else of it later.
func TestChangesBetweenSteps(t *testing.T) {
	states, mates := []int{5, 0, 1, 2}, []int{0, 2, 2, 1}
	begin := []api.Access{store(22, 0, 1), store(41, 0, 1), load(23, 5)}
	empty := []api.Access{load(26, 0), swap(26, 0, 2), load(26, 2)}                                      // 3 to 5
	posted := []api.Access{load(29, 1), load(1, 6), swap(29, 1, 9), load(29, 9), load(32, 2)}            // 6 to 10
	matesEmpty := []api.Access{load(42, 0), swap(42, 0, 2), load(42, 2)}                                 // 11 to 13
	last := []api.Access{load(45, 2), load(48, 2), load(51, 1), load(1, 6), swap(51, 1, 9), load(51, 9)} // 14 to 19
	whole := slices.Concat(begin, empty, posted, matesEmpty, last)
	to := func(n int, then ...api.Access) []api.Access { return slices.Concat(whole[:n], then) }
	toFrom := func(n, m int, amid ...api.Access) []api.Access { return slices.Concat(whole[:n], amid, whole[m:]) }
	for _, x := range []struct {
		what    string
		changes []change
		want    []api.Access
	}{
		{"none", nil, whole},
		{"frozen ahead of 1", []change{{0, 22, 1}, {0, 41, 1}}, append([]api.Access{store(22, 1, 1), store(41, 1, 1)}, whole[2:]...)},
		{"replaced ahead of 1", []change{{0, 22, 2}}, append([]api.Access{store(22, 2, 1)}, whole[1:]...)},
		{"the mate is replaced ahead of 2", []change{{1, 41, 2}}, toFrom(1, 2, store(41, 2, 1))},
		{"no longer frozen behind 1 and 2", []change{{1, 22, 0}, {2, 41, 0}, {3, 22, 2}, {9, 41, 2}}, whole},
		{"posted ahead of 3", []change{{3, 26, 1}}, toFrom(3, 6, load(26, 1), load(1, 6), swap(26, 1, 9), load(26, 9))},
		{"given ahead of 3", []change{{3, 26, 7}}, toFrom(3, 6, load(26, 7))},
		{"dead ahead of 3", []change{{3, 26, 2}}, toFrom(3, 6, load(26, 2))},
		{"posted ahead of 4", []change{{4, 26, 1}}, toFrom(4, 6, vain(26, 1), load(26, 1), load(1, 6), swap(26, 1, 9), load(26, 9))},
		{"given ahead of 4", []change{{4, 26, 8}}, toFrom(4, 6, vain(26, 8), load(26, 8))},
		{"given the first version of all ahead of 4", []change{{4, 26, 3}}, toFrom(4, 6, vain(26, 3), load(26, 3))},
		{"dead ahead of 4", []change{{4, 26, 2}}, toFrom(4, 6, vain(26, 2), load(26, 2))},
		{"posted ahead of 4, given behind it", []change{{4, 26, 1}, {5, 26, 8}}, toFrom(4, 6, vain(26, 1), load(26, 8))},
		{"posted ahead of 4, dead behind it", []change{{4, 26, 1}, {5, 26, 2}}, toFrom(4, 6, vain(26, 1), load(26, 2))},
		{"posted ahead of 4, given ahead of 6", []change{{4, 26, 1}, {6, 26, 8}}, toFrom(4, 6, vain(26, 1), load(26, 1), load(1, 6), vain(26, 8), load(26, 8))},
		{"posted ahead of 4, empty again", []change{{4, 26, 1}, {5, 26, 0}}, toFrom(4, 6, vain(26, 1), load(26, 0), swap(26, 0, 2), load(26, 2))},
		{"posted ahead of 4, the clock goes on", []change{{4, 26, 1}, {6, 1, 8}}, to(4, vain(26, 1), load(26, 1), load(1, 8), swap(26, 1, 11), load(26, 11),
			load(29, 1), load(1, 8), swap(29, 1, 11), load(29, 11), load(32, 2), load(42, 0), swap(42, 0, 2), load(42, 2), load(45, 2), load(48, 2), load(51, 1), load(1, 8), swap(51, 1, 11), load(51, 11))},
		{"empty again behind 4", []change{{5, 26, 0}}, toFrom(5, 6, load(26, 0), swap(26, 0, 2), load(26, 2))},
		{"posted behind 4", []change{{5, 26, 1}}, toFrom(5, 6, load(26, 1), load(1, 6), swap(26, 1, 9), load(26, 9))},
		{"given behind 4", []change{{5, 26, 7}}, toFrom(5, 6, load(26, 7))},
		{"empty behind the last load", []change{{6, 26, 0}, {6, 23, 0}, {7, 23, 1}}, whole},
		{"given ahead of 3 that would find it posted", []change{{6, 29, 8}}, toFrom(6, 10, load(29, 8))},
		{"dead ahead of 3 that would find it posted", []change{{6, 29, 2}}, toFrom(6, 10, load(29, 2))},
		{"given ahead of 5", []change{{7, 29, 8}}, toFrom(7, 10, load(1, 6), vain(29, 8), load(29, 8))},
		{"given ahead of 6", []change{{8, 29, 8}}, toFrom(8, 10, vain(29, 8), load(29, 8))},
		{"given the first version of all ahead of 6", []change{{8, 29, 3}}, toFrom(8, 10, vain(29, 3), load(29, 3))},
		{"given a later one ahead of 6", []change{{8, 29, 99}}, toFrom(8, 10, vain(29, 99), load(29, 99))},
		{"dead ahead of 6", []change{{8, 29, 2}}, toFrom(8, 10, vain(29, 2), load(29, 2))},
		{"empty ahead of 6", []change{{8, 29, 0}}, toFrom(8, 10, vain(29, 0), load(29, 0), swap(29, 0, 2), load(29, 2))},
		{"posted again behind a 6 in vain", []change{{8, 29, 8}, {9, 29, 1}, {10, 1, 6}}, toFrom(8, 10, vain(29, 8), load(29, 1), load(1, 6), swap(29, 1, 9), load(29, 9))},
		{"given another one behind 6", []change{{9, 29, 99}}, toFrom(9, 10, load(29, 99))},
		{"posted behind 6", []change{{9, 29, 1}}, toFrom(9, 10, load(29, 1), load(1, 6), swap(29, 1, 9), load(29, 9))},
		{"dead behind 6", []change{{9, 29, 2}}, toFrom(9, 10, load(29, 2))},
		{"the clock goes on between 5 and 6", []change{{8, 1, 8}}, to(8, swap(29, 1, 9), load(29, 9), load(32, 2), load(42, 0), swap(42, 0, 2), load(42, 2), load(45, 2), load(48, 2),
			load(51, 1), load(1, 8), swap(51, 1, 11), load(51, 11))},
		{"the clock goes on between 5 and 6, and another one gives that version", []change{{8, 1, 8}, {8, 29, 11}, {9, 1, 6}}, toFrom(8, 10, vain(29, 11), load(29, 11))},
		{"the clock goes on between 3 and 5", []change{{7, 1, 8}, {8, 1, 6}}, toFrom(7, 10, load(1, 8), swap(29, 1, 11), load(29, 11))},
		{"the clock goes on at last, between 5 and 6", []change{{18, 1, 8}}, whole},
		{"the last one of the chunk is posted", []change{{10, 32, 1}}, toFrom(10, 11, load(32, 1), load(1, 6), swap(32, 1, 9), load(32, 9))},
		{"the last one of the chunk is empty", []change{{10, 32, 0}}, toFrom(10, 11, load(32, 0), swap(32, 0, 2), load(32, 2))},
		{"the mate's first one is posted ahead of 4", []change{{12, 42, 1}}, toFrom(12, 14, vain(42, 1), load(42, 1), load(1, 6), swap(42, 1, 9), load(42, 9))},
		{"the mate's first one is given ahead of 4", []change{{12, 42, 7}}, toFrom(12, 14, vain(42, 7), load(42, 7))},
		{"the mate's last one is given ahead of 6", []change{{18, 51, 7}}, to(18, vain(51, 7), load(51, 7))},
		{"the mate's last one is dead ahead of 6", []change{{18, 51, 2}}, to(18, vain(51, 2), load(51, 2))},
		{"the mate's last one is dead ahead of 3", []change{{16, 51, 2}}, to(16, load(51, 2))},
		{"all is empty behind the end", []change{{20, 51, 0}, {20, 22, 0}, {20, 41, 0}, {20, 23, 1}}, whole},
		{"other words of both", []change{{0, 16, 9}, {1, 17, 0}, {2, 18, 1}, {3, 19, 0}, {4, 20, 1}, {5, 21, 7}, {6, 24, 9}, {8, 30, 9}, {8, 31, 9}, {9, 36, 1}, {11, 43, 0}, {12, 44, 0}}, whole},
	} {
		r := amid(t, two(), it(), both(t, 6, states, mates), x.changes...)
		if !slices.Equal(r.done, x.want) {
			t.Errorf("P17.1: %s: %v, not %v", x.what, r.done, x.want)
		}
	}
}

// TestEachChange: of each word of the chunks, and of the clock, between any two steps, ahead of and behind them all; then of two words.
func TestEachChange(t *testing.T) {
	values := []int{-1, 0, 1, 2, 3, 9}
	whole := both(t, 6, []int{0, 1, 2, 3}, []int{1, 0, 5, 0})
	for behind := range 25 {
		for at := one - 1; at < other+20; at++ {
			for _, word := range values {
				amid(t, two(), it(), whole.Copy(), change{behind, at, word})
			}
		}
		for _, word := range values {
			amid(t, two(), it(), whole.Copy(), change{behind, clock, word})
			amid(t, two(), alone(), whole.Copy(), change{behind, clock, word})
		}
	}
	small := laid(t, 6, 2, 0, 1, 2)
	places, values := []int{1, 22, 23, 26, 29}, []int{0, 1, 2, 7}
	for i := range 12 * len(places) * len(values) {
		for j := range 12 * len(places) {
			x := change{i % 12, places[i/12%len(places)], values[i/12/len(places)]}
			y := change{j % 12, places[j/12], values[(i+j/12)%len(values)]}
			amid(t, two(), alone(), small.Copy(), x, y)
		}
	}
}

// drawer: numbers by rule, from 0 on, below what is asked.
func drawer(seed int) func(below int) int {
	n := seed
	return func(below int) int {
		n = (n*1103515245 + 12345) % (1 << 31)
		return n >> 16 % below
	}
}

// TestDrawnWords: words that are no chunk's, chunks wherever, also over each other, and changes of many words.
func TestDrawnWords(t *testing.T) {
	draw, shapes := drawer(1), map[string]int{}
	for range 6000 {
		c := api.Conf{Threads: 1, Cap: 3 + draw(4), Words: 90, Versions: 100}
		a := made(t, c)
		for at := range a.Len() {
			a.Poke(at, draw(7)-1)
		}
		x := asked{draw(40), draw(60)}
		if draw(3) == 0 {
			x.mate = 0
		}
		changes := make([]change, draw(20))
		for i := range changes {
			changes[i] = change{draw(40), draw(a.Len()), draw(7) - 1}
			if draw(3) == 0 {
				changes[i].at = x.chunk + 7 + 3*draw(3)
				changes[i].behind = draw(12)
			}
		}
		r := amid(t, c, x, a, changes...)
		if x.mate == 0 {
			shapes["alone"]++
		}
		for _, y := range r.done {
			switch {
			case y.Kind == api.KSwap && !y.Ok:
				shapes["in vain"]++
			case y.Kind == api.KSwap && y.Old == 0:
				shapes["dead"]++
			case y.Kind == api.KSwap:
				shapes["given"]++
			}
		}
	}
	for _, shape := range []string{"alone", "in vain", "dead", "given"} {
		if shapes[shape] < 500 {
			t.Errorf("drawn: %v", shapes)
		}
	}
}

// TestAnArenaIsNotKept: each step asks the one that it is handed.
func TestAnArenaIsNotKept(t *testing.T) {
	r := begun(single(), asked{15, 31})
	found := []int{2, 0, 0, 0, 1, 9, 1, 4, 2, 2, 7, 1, 3, 1, 1, 2, 1, 5, 1, 6}
	for _, word := range found {
		a := arena.New(60)
		for at := range a.Len() {
			a.Poke(at, word)
		}
		r.turn(t, a)
		for at := range a.Len() {
			a.Poke(at, 1-word)
		}
	}
	want := []api.Access{
		store(21, 2, 1), store(37, 0, 1), load(22, 0), swap(22, 0, 2), load(22, 1), load(1, 9), swap(22, 1, 12), load(22, 4),
		load(25, 2), load(28, 2), load(38, 7), load(41, 1), load(1, 3), swap(41, 1, 6), load(41, 1), load(1, 2), swap(41, 1, 5), load(41, 5), load(44, 1), load(1, 6),
	}
	if !slices.Equal(r.done, want) || r.over {
		t.Errorf("P17.1: of many arenas: %v, not %v", r.done, want)
	}
}

// TestNobodyElseIsAsked: other threads, words, versions that may be, and the words of others don't matter, nor those of the chunks but their states.
func TestNobodyElseIsAsked(t *testing.T) {
	a := both(t, 6, []int{0, 1, 2, 3}, []int{1, 0, 9, 0})
	want := it().whole(two(), a)
	for _, n := range append(noNumbers(), 0, 1, 2, 3, 9) {
		b := a.Copy()
		for at := range b.Len() {
			x := at
			if x >= other {
				x -= 19
			}
			if at != clock && (x < 22 || x > 32 || x%3 == 0 || x%3 == 1 && x != 22) {
				b.Poke(at, n)
			}
		}
		does(t, fmt.Sprint("P17.1: other words are ", n), two(), it(), b, want)
	}
	for _, c := range confs() {
		if c.Cap == 4 {
			does(t, fmt.Sprintf("P17.1: %+v", c), c, it(), a, want)
		}
	}
}

// TestSealsAreTheirOwn: two that are made alike share nothing.
func TestSealsAreTheirOwn(t *testing.T) {
	x, y := begun(two(), it()), begun(two(), it())
	a, b := both(t, 6, []int{0, 1, 2, 3}, []int{0, 0, 0, 0}), both(t, 8, []int{1, 1, 3, 3}, []int{2, 2, 0, 1})
	wantX, wantY := it().whole(two(), a), it().whole(two(), b)
	x.turn(t, a)
	for range 5 {
		y.turn(t, b)
	}
	x.toItsEnd(t, a)
	y.toItsEnd(t, b)
	if !slices.Equal(x.done, wantX) || !slices.Equal(y.done, wantY) {
		t.Errorf("P17.1: two of their own: %v, %v", x.done, y.done)
	}
}

// P17.2: what is posted is kept, what isn't is dead

// putting: into a cell of a chunk, told as whoever puts does it; i -1: it has none.
type putting struct {
	chunk, room, key, data int
	line, i, clock         int
	posted, over           bool
}

func newPutting(c api.Conf, chunk, key, data int) putting {
	return putting{chunk: chunk, room: c.Cap, key: key, data: data, i: -1}
}

func (p *putting) turn(a *arena.Arena) {
	if p.over {
		return
	}
	at := p.chunk + 7 + 3*p.i
	switch p.line {
	case 0:
		p.over = a.Load(p.chunk+6) != 0
	case 1:
		p.i = a.Add(p.chunk+1, 1)
		p.over = p.i >= p.room
	case 2:
		a.Store(at+1, p.key)
	case 3:
		a.Store(at+2, p.data)
	case 4:
		p.posted = a.Swap(at, 0, 1)
		p.over = !p.posted
	case 5:
		p.clock = a.Load(clock)
	case 6:
		a.Swap(at, 1, 3+p.clock)
	case 7:
		a.Load(at)
		p.over = true
	}
	p.line++
}

// helping: whoever meets a posted cell, and gives it the version that counts.
type helping struct {
	at, line, clock int
	over            bool
}

func (h *helping) turn(a *arena.Arena) {
	if h.over {
		return
	}
	switch h.line {
	case 0:
		h.over = a.Load(h.at) != 1
	case 1:
		h.clock = a.Load(clock)
	case 2:
		a.Swap(h.at, 1, 3+h.clock)
		h.over = true
	}
	h.line++
}

// crowd: seals, puts, one that helps, a clock that is counted on so often; each of these is a value, so that a moment can be held against others.
type crowd struct {
	seals  [3]Seal
	asked  [3]asked
	overs  [3]bool
	puts   [2]putting
	help   helping
	ticks  int
	counts [2]int // of seals, of puts
}

// newCrowd: the seals' fields are values alone, so that a copy of one goes on by itself.
func newCrowd(c api.Conf, seals []asked, puts []putting, help helping, ticks int) crowd {
	x := crowd{help: help, ticks: ticks, counts: [2]int{len(seals), len(puts)}}
	for i, y := range seals {
		x.seals[i], x.asked[i] = *New(c, y.chunk, y.mate), y
	}
	copy(x.puts[:], puts)
	return x
}

// size: of whom a turn may be asked.
func (x *crowd) size() int { return x.counts[0] + x.counts[1] + 2 }

// turn of one of them; false, if there is none left.
func (x *crowd) turn(a *arena.Arena, who int) bool {
	switch {
	case who < x.counts[0]:
		if x.overs[who] {
			return false
		}
		x.overs[who] = x.seals[who].Step(a)
		return true
	case who < x.counts[0]+x.counts[1]:
		p := &x.puts[who-x.counts[0]]
		if p.over {
			return false
		}
		p.turn(a)
		return true
	case who == x.counts[0]+x.counts[1]:
		if x.help.over {
			return false
		}
		x.help.turn(a)
		return true
	}
	if x.ticks == 0 {
		return false
	}
	a.Add(clock, 1)
	x.ticks--
	return true
}

// table: which words there are, of how many chunks: of three cells each, at 15, 31.
type table struct {
	conf   api.Conf
	chunks []int
}

// shape: the words of a table, and of each cell that was posted the version that counted then; -1 of each other one.
type shape struct {
	clock  int
	words  [2][16]int
	posted [2][3]int
}

func (b table) note(a *arena.Arena, s *shape) {
	s.clock = a.Peek(clock)
	for i, chunk := range b.chunks {
		for j := range s.words[i] {
			s.words[i][j] = a.Peek(chunk + j)
		}
	}
}

func (b table) lay(a *arena.Arena, s *shape) {
	a.Poke(clock, s.clock)
	for i, chunk := range b.chunks {
		for j := range s.words[i] {
			a.Poke(chunk+j, s.words[i][j])
		}
	}
}

// moment: how far they all are, and the words.
type moment struct {
	crowd crowd
	shape shape
}

// goesOn: from one moment to the next, by a turn of one of them. What a seal did is held against P17.2's words; sealed cells don't change.
func (b table) goesOn(t *testing.T, m, n *moment, seal bool) {
	t.Helper()
	changed := 0
	for i := range b.chunks {
		ended := b.sealedBy(m, i)
		for j := range 3 {
			was, is := m.shape.words[i][7+3*j], n.shape.words[i][7+3*j]
			data, other := [2]int(m.shape.words[i][8+3*j:10+3*j]), [2]int(n.shape.words[i][8+3*j:10+3*j])
			if data != other && (seal || was > 0 && was != 2) {
				t.Fatalf("P17.2: of state %d: %v is %v", was, data, other)
			}
			if was == is {
				continue
			}
			changed++
			if ended {
				t.Fatalf("P17.2: sealed, and %d is %d then", was, is)
			}
			switch posted := m.shape.posted[i][j]; {
			case was == 0 && is == 1 && !seal:
				n.shape.posted[i][j] = m.shape.clock
			case was == 0 && is == 2 && seal:
			case was == 1 && is > 2 && posted >= 0 && is-3 >= posted && is-3 <= m.shape.clock:
			default:
				t.Fatalf("P17.2: %d is %d then, posted while %d counted, now %d does", was, is, posted, m.shape.clock)
			}
		}
		if status := m.shape.words[i][6]; status != n.shape.words[i][6] {
			if changed++; !seal || n.shape.words[i][6] != 1 {
				t.Fatalf("P17.2: status %d is %d then", status, n.shape.words[i][6])
			}
		}
		for j := range 6 {
			if was, is := m.shape.words[i][j], n.shape.words[i][j]; was != is && (seal || j != 1) {
				t.Fatalf("P17.2: word %d: %d is %d then", j, was, is)
			}
		}
	}
	if changed > 1 {
		t.Fatalf("P17.2: %d words at once", changed)
	}
}

// sealedBy: one of the seals of that chunk has ended.
func (b table) sealedBy(m *moment, i int) bool {
	for j := range m.crowd.counts[0] {
		x := m.crowd.asked[j]
		if m.crowd.overs[j] && (x.chunk == b.chunks[i] || x.mate == b.chunks[i]) {
			return true
		}
	}
	return false
}

// kept: each chunk that is sealed has dead cells and given ones; what was posted has a version, what wasn't has none but what it had at first.
func (b table) kept(t *testing.T, m *moment, begin *shape) {
	t.Helper()
	for i := range b.chunks {
		if !b.sealedBy(m, i) {
			continue
		}
		if m.shape.words[i][6] != 1 {
			t.Fatalf("P17.2: sealed, of status %d", m.shape.words[i][6])
		}
		for j := range 3 {
			was, is, posted := begin.words[i][7+3*j], m.shape.words[i][7+3*j], m.shape.posted[i][j]
			switch {
			case posted >= 0 && is >= 3+posted && is <= 3+m.shape.clock:
			case posted < 0 && was >= 2 && is == was:
			case posted < 0 && was == 0 && is == 2:
			default:
				t.Fatalf("P17.2: sealed: %d, posted at %d, is %d then", was, posted, is)
			}
		}
	}
}

// answered: each put that has posted its cell has it, and what it stored; each other one that came to a cell finds it dead.
func (b table) answered(t *testing.T, m *moment, ends map[string]int) {
	t.Helper()
	for _, p := range m.crowd.puts[:m.crowd.counts[1]] {
		if p.i < 0 || p.i >= p.room {
			ends["no cell"]++
			continue
		}
		i := slices.Index(b.chunks, p.chunk)
		got := [3]int(m.shape.words[i][7+3*p.i:])
		switch {
		case p.posted && got[0] > 2 && got[1] == p.key && got[2] == p.data:
			ends["kept"]++
			if got[0] != 3+p.clock {
				ends["helped"]++
			}
		case !p.posted && got[0] == 2:
			ends["dead"]++
		default:
			t.Fatalf("P17.2: %+v: %v", p, got)
		}
	}
}

// moments: all in which a crowd may be, whoever's turn it is; where nobody has one any more, its ends.
func (b table) moments(t *testing.T, a *arena.Arena, x crowd, ends map[string]int) int {
	t.Helper()
	m := moment{crowd: x}
	b.note(a, &m.shape)
	for i := range b.chunks {
		for j := range 3 {
			m.shape.posted[i][j] = -1
			if m.shape.words[i][7+3*j] == 1 {
				m.shape.posted[i][j] = m.shape.clock
			}
		}
	}
	begin := m.shape
	seen, open := map[moment]bool{m: true}, []moment{m}
	for len(open) > 0 {
		m, open = open[len(open)-1], open[:len(open)-1]
		last := true
		for who := range m.crowd.size() {
			n := m
			b.lay(a, &n.shape)
			accesses := a.Accesses()
			if !n.crowd.turn(a, who) {
				continue
			}
			if a.Accesses() != accesses+1 {
				t.Fatalf("P17.2: a turn of %d accesses", a.Accesses()-accesses)
			}
			last = false
			b.note(a, &n.shape)
			b.goesOn(t, &m, &n, who < n.crowd.counts[0])
			b.kept(t, &n, &begin)
			if !seen[n] {
				seen[n] = true
				open = append(open, n)
			}
		}
		if last {
			b.answered(t, &m, ends)
		}
	}
	return len(seen)
}

// TestEachTurn: seals of the same chunk, and of it with its mate, with puts, one that helps, and a clock that goes on, step by step, in each order that there may be.
func TestEachTurn(t *testing.T) {
	single, whole := table{single(), []int{15}}, table{single(), []int{15, 31}}
	ends, most := map[string]int{}, 0
	for _, x := range []struct {
		table        table
		count        int
		states       []int
		seals        []asked
		puts, ticks  int
		helpAt, into int
	}{
		{single, 0, []int{0, 0, 0}, []asked{{15, 0}}, 2, 1, 22, 15},
		{single, 1, []int{1, 0, 0}, []asked{{15, 0}}, 1, 2, 22, 15},
		{single, 2, []int{7, 1, 0}, []asked{{15, 0}}, 2, 1, 28, 15},
		{single, 0, []int{0, 0, 0}, []asked{{15, 0}, {15, 0}}, 1, 1, 22, 15},
		{single, 1, []int{1, 0, 0}, []asked{{15, 0}, {15, 0}}, 1, 1, 0, 15},
		{single, 3, []int{1, 5, 1}, []asked{{15, 0}, {15, 0}}, 1, 2, 28, 15},
		{single, 2, []int{5, 1, 0}, []asked{{15, 0}, {15, 0}, {15, 0}}, 1, 0, 0, 15},
		{single, 1, []int{2, 0, 1}, []asked{{15, 0}, {15, 0}, {15, 0}}, 0, 1, 28, 15},
		{whole, 2, []int{1, 5, 0, 0, 1, 1}, []asked{{15, 31}}, 1, 1, 41, 15},
		{whole, 0, []int{2, 1, 0, 0, 0, 0}, []asked{{15, 31}}, 1, 1, 44, 31},
		{whole, 2, []int{1, 4, 0, 5, 1, 0}, []asked{{15, 31}, {15, 31}}, 0, 1, 41, 31},
		{whole, 2, []int{3, 3, 0, 2, 1, 0}, []asked{{15, 31}, {15, 0}}, 1, 0, 41, 15},
		{whole, 1, []int{3, 0, 1, 2, 0, 0}, []asked{{15, 31}, {31, 0}}, 1, 0, 28, 31},
		{whole, 2, []int{3, 1, 0, 5, 0, 0}, []asked{{15, 31}, {31, 15}}, 0, 1, 25, 31},
		{whole, 2, []int{3, 5, 1, 2, 1, 0}, []asked{{15, 31}, {15, 31}, {15, 31}}, 0, 1, 0, 31},
	} {
		a, c := junk(t, x.table.conf), x.table.conf
		a.Poke(clock, 4)
		for i, chunk := range x.table.chunks {
			lay(a, chunk, 0, x.states[3*i:3*i+3]...)
			a.Poke(chunk+1, x.count)
		}
		var puts []putting
		for i := range x.puts {
			puts = append(puts, newPutting(c, x.into, 50+i, 77+i))
		}
		n := x.table.moments(t, a, newCrowd(c, x.seals, puts, helping{at: x.helpAt, over: x.helpAt == 0}, x.ticks), ends)
		most = max(most, n)
	}
	for _, end := range []string{"no cell", "kept", "helped", "dead"} {
		if ends[end] < 10 {
			t.Errorf("P17.2: in turns: %v", ends)
		}
	}
	if most < 10000 {
		t.Errorf("P17.2: in turns: %d moments at most", most)
	}
}

// TestOneBehindTheOther: the first one seals, those that come later find what it left, however far the clock is by then, be it one of the chunk alone, of its mate, or of both the other way round.
func TestOneBehindTheOther(t *testing.T) {
	all := []asked{alone(), it(), {other, 0}, {other, one}}
	for n := range len(all) * len(all) * len(all) {
		a := both(t, 6, []int{1, 0, 2, 7}, []int{0, 1, 0, 1})
		for i, x := range []asked{all[n%4], all[n/4%4], all[n/16]} {
			a.Poke(clock, 6+i)
			want := x.whole(two(), a)
			r := begun(two(), x)
			r.toItsEnd(t, a)
			if !slices.Equal(r.done, want) {
				t.Errorf("P17.2: %+v behind %d others: %v, not %v", x, i, r.done, want)
			}
			isSealed(t, "P17.2: one behind the other", two(), x, a)
		}
	}
}

// TestOneThatIsLeft behind each of its steps, for ever, or until another one has ended: that one seals it all, and nothing is changed then.
func TestOneThatIsLeft(t *testing.T) {
	for steps := range 24 {
		a, left, next := both(t, 6, []int{1, 0, 2, 7}, []int{0, 1, 0, 1}), begun(two(), it()), begun(two(), it())
		for i := 0; i < steps && !left.over; i++ {
			left.turn(t, a)
		}
		want := words(a)
		a.Poke(clock, 8)
		next.toItsEnd(t, a)
		isSealed(t, fmt.Sprintf("P17.2: one is left behind %d steps", steps), two(), it(), a)
		want[clock], want[22], want[41] = 8, 1, 1
		for _, at := range []int{23, 26, 42, 45, 48, 51} {
			switch want[at] {
			case 0:
				want[at] = 2
			case 1:
				want[at] = 11
			}
		}
		if !slices.Equal(words(a), want) {
			t.Errorf("P17.2: one is left behind %d steps: %v, not %v", steps, words(a), want)
		}
		a.Poke(clock, 9)
		want[clock] = 9
		left.toItsEnd(t, a)
		if !slices.Equal(words(a), want) {
			t.Errorf("P17.2: one goes on behind %d steps: %v, not %v", steps, words(a), want)
		}
	}
}

// TestPutAgainstSeal: a put is done so many steps, then a seal so many, then the put to its end, then the seal: it is kept if it was posted ahead of the seal's line 4 of its cell, by the version of whoever swapped first.
func TestPutAgainstSeal(t *testing.T) {
	kept := 0
	for puts := range 9 {
		for steps := range 14 {
			a, r, p := laid(t, 6, 7, 0, 0, 0), begun(two(), alone()), newPutting(two(), one, 5, 77)
			a.Poke(one+1, 1)
			for range puts {
				p.turn(a)
			}
			a.Poke(clock, 7)
			for i := 0; i < steps && !r.over; i++ {
				r.turn(t, a)
			}
			killed, gave := slices.Contains(r.done, swap(26, 0, 2)), slices.Contains(r.done, swap(26, 1, 10))
			for !p.over {
				p.turn(a)
			}
			a.Poke(clock, 8)
			r.toItsEnd(t, a)
			isSealed(t, "P17.2: a put and a seal", two(), alone(), a)
			want := [2]int{2, 2}
			if p.posted {
				kept++
				if want[0] = 10; puts > 5 && !gave {
					want[0] = 9
				}
			}
			if got := [2]int{a.Peek(26), a.Peek(29)}; got != want || p.posted && killed || puts >= 1 && !p.posted && !killed {
				t.Errorf("P17.2: %d steps of a put, %d of a seal: %v, not %v, posted %v", puts, steps, got, want, p.posted)
			}
		}
	}
	if kept < 50 {
		t.Errorf("P17.2: %d puts are kept", kept)
	}
}

// TestManyOthers: seals, puts into both chunks, one that helps, and a clock that goes on, as drawn, each seal held against its lines; some come late.
func TestManyOthers(t *testing.T) {
	draw, ends := drawer(4), map[string]int{}
	c := api.Conf{Threads: 8, Cap: 12, Words: 130, Versions: 100}
	x := asked{22, 65}
	for range 250 {
		a := made(t, c)
		a.Poke(clock, 3)
		taken := [2]int{draw(8), draw(8)}
		for i, chunk := range x.chunks() {
			a.Poke(chunk+1, taken[i])
			for j := range taken[i] {
				a.Poke(chunk+7+3*j, []int{0, 1, 2, 3, 5}[draw(5)])
			}
		}
		begin := words(a)
		seals := []*running{begun(c, x), begun(c, x), begun(c, x)}
		var puts []putting
		for i := range 8 {
			puts = append(puts, newPutting(c, x.chunks()[draw(2)], 50+i, 77+i))
		}
		help, late := helping{at: x.chunks()[draw(2)] + 7 + 3*draw(12)}, [3]int{draw(60), draw(60), draw(150)}
		for turns := 0; slices.ContainsFunc(seals, func(r *running) bool { return !r.over }); turns++ {
			switch who := draw(20); {
			case who < 9:
				if r := seals[who%3]; turns > late[who%3] && !r.over {
					r.turn(t, a)
				}
			case who < 17:
				puts[who-9].turn(a)
			case who == 17:
				help.turn(a)
			case who == 18 && draw(5) == 0:
				a.Add(clock, 1)
			}
		}
		want := words(a)
		for range 9 {
			for i := range puts {
				puts[i].turn(a)
			}
		}
		isSealed(t, "P17.2: among many", c, x, a)
		amongMany(t, c, x, begin, want, a, puts, ends)
	}
	for _, end := range []string{"kept", "dead", "no cell", "was given", "was posted", "was dead"} {
		if ends[end] < 100 {
			t.Errorf("P17.2: among many: %v", ends)
		}
	}
}

// amongMany: each cell as it was when the seals had ended, and that by what it was at first, and by the put that was posted there.
func amongMany(t *testing.T, c api.Conf, x asked, begin, sealed []int, a *arena.Arena, puts []putting, ends map[string]int) {
	t.Helper()
	posted := map[int]putting{}
	for _, p := range puts {
		switch at := p.chunk + 7 + 3*p.i; {
		case p.i < 0 || p.i >= p.room:
			ends["no cell"]++
		case p.posted:
			posted[at] = p
		case a.Peek(at) != 2:
			t.Errorf("P17.2: in vain among many: %+v, state %d", p, a.Peek(at))
		}
	}
	for _, chunk := range x.chunks() {
		for i := range c.Cap {
			at := chunk + 7 + 3*i
			was, got := begin[at], a.Peek(at)
			p, put := posted[at]
			switch {
			case got != sealed[at]:
				t.Errorf("P17.2: among many: sealed as %d, and %d then", sealed[at], got)
			case was > 2 && got == was:
				ends["was given"]++
			case was == 2 && got == 2:
				ends["was dead"]++
			case was == 1 && got >= 6 && got <= 3+a.Peek(clock):
				ends["was posted"]++
			case was == 0 && !put && got == 2:
				ends["dead"]++
			case was == 0 && put && got >= 6 && got <= 3+a.Peek(clock) && a.Peek(at+1) == p.key && a.Peek(at+2) == p.data:
				ends["kept"]++
			default:
				t.Errorf("P17.2: among many: %d was %d, %+v, is %d", at, was, p, got)
			}
		}
	}
}

// Wrong inputs

// TestAnyInputs: of these nothing is promised but that no call panics, and that a step is one access at most.
func TestAnyInputs(t *testing.T) {
	bad := []api.Conf{{}, {Threads: -1, Cap: -1, Words: -1, Versions: -1}, {Threads: math.MaxInt, Cap: math.MaxInt, Words: math.MaxInt, Versions: math.MaxInt}, {Threads: math.MinInt, Cap: math.MinInt}, two()}
	for _, c := range bad {
		for _, chunk := range append(noNumbers(), 0, 1, 2, 16) {
			for _, mate := range append(noNumbers(), 0, 1, 2, 16) {
				for _, word := range []int{math.MinInt, -1, 0, 1, 2, 3, math.MaxInt} {
					a := arena.New(24)
					for at := range a.Len() {
						a.Poke(at, word)
					}
					anySteps(t, New(c, chunk, mate), a)
				}
			}
			anySteps(t, New(c, chunk, 0), arena.New(30))
			anySteps(t, New(c, 0, chunk), arena.New(-1))
		}
	}
	anySteps(t, new(Seal), arena.New(20))
}

func anySteps(t *testing.T, s *Seal, a *arena.Arena) {
	t.Helper()
	ended := false
	for range 30 {
		n, was := a.Accesses(), words(a)
		over := s.Step(a)
		if a.Accesses() > n+1 || !over && a.Accesses() == n || ended && (!over || a.Accesses() != n || !slices.Equal(words(a), was)) {
			t.Fatalf("P17.1: %+v: ended %v, %d accesses", s, over, a.Accesses()-n)
		}
		ended = over
	}
}

// TestNoCells: of a conf without any nothing is promised: here the end is told behind the frozen ones.
func TestNoCells(t *testing.T) {
	for _, room := range []int{0, -1, -7, math.MinInt} {
		c := api.Conf{Threads: 1, Cap: room, Words: 60, Versions: 100}
		a := laid(t, 6, 0, 1, 0, 1)
		if r := amid(t, c, it(), a); !slices.Equal(r.done, []api.Access{store(22, 0, 1), store(41, 1041, 1)}) {
			t.Errorf("P17.1: %d cells: %v", room, r.done)
		}
	}
}
