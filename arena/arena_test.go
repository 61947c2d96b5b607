package arena

import (
	"math"
	"testing"

	"armillary/api"
)

// sizes: the least and the most of words, one beside them, and some between.
func sizes() []int {
	return []int{1, 2, 3, 63, 64, 65, 127, 128, 129, 1000, api.MaxWords - 1, api.MaxWords}
}

// numbers: words that are laid, added, expected.
func numbers() []int {
	return []int{0, 1, -1, 2, 7, 1 << 32, -1 << 32, 1 << 62, math.MaxInt, math.MaxInt - 1, math.MinInt, math.MinInt + 1}
}

// nowhere: places that aren't there: one past the first and the last one, and far past.
func nowhere(a *Arena) []int {
	return []int{
		-1, -2, -63, -64, -65, -api.MaxWords, -1 << 32, -1 << 40, math.MinInt, math.MinInt + 1,
		a.Len(), a.Len() + 1, a.Len() + 63, a.Len() + 64, a.Len() + api.MaxWords, 1 << 32, 1 << 40, math.MaxInt - 1, math.MaxInt,
	}
}

// there: the first and the last place, and some between.
func there(a *Arena) []int {
	l := []int{0}
	for _, at := range []int{1, 2, 62, 63, 64, 65, a.Len() / 2, a.Len() - 2, a.Len() - 1} {
		if at > l[len(l)-1] && at < a.Len() {
			l = append(l, at)
		}
	}
	return l
}

// full: an arena with another word at each place, made without an access.
func full(words int) *Arena {
	a := New(words)
	for at := range a.Len() {
		a.Poke(at, at*3+1)
	}
	return a
}

func wordsOf(a *Arena) []int {
	l := make([]int, a.Len())
	for at := range l {
		l[at] = a.Peek(at)
	}
	return l
}

func checkWords(t *testing.T, what string, a *Arena, want []int) {
	t.Helper()
	if a.Len() != len(want) {
		t.Fatalf("%s: %d words, not %d", what, a.Len(), len(want))
	}
	for at, w := range want {
		if a.Peek(at) != w {
			t.Fatalf("%s: at %d: %d, not %d", what, at, a.Peek(at), w)
		}
	}
}

func checkLast(t *testing.T, what string, a *Arena, accesses int, want api.Access) {
	t.Helper()
	if a.Accesses() != accesses || a.Last() != want {
		t.Fatalf("%s: %d accesses, the last one %+v, not %d, %+v", what, a.Accesses(), a.Last(), accesses, want)
	}
}

// P2.1

func TestNewHoldsHowManyWordsThereAre(t *testing.T) {
	for _, x := range []struct{ words, want int }{
		{math.MinInt, 1}, {-api.MaxWords, 1}, {-1, 1}, {0, 1}, {1, 1}, {2, 2}, {63, 63}, {64, 64}, {65, 65}, {500, 500},
		{api.MaxWords - 1, 19999}, {api.MaxWords, 20000}, {api.MaxWords + 1, 20000}, {1 << 32, 20000}, {math.MaxInt, 20000},
	} {
		if got := New(x.words).Len(); got != x.want {
			t.Errorf("P2.1: New(%d): %d words, not %d", x.words, got, x.want)
		}
	}
}

func TestNewIsAllZeros(t *testing.T) {
	for _, n := range sizes() {
		a := New(n)
		checkLast(t, "P2.1: new", a, 0, api.Access{})
		checkWords(t, "P2.1: new", a, make([]int, n))
		for i, at := range there(a) {
			if w := a.Load(at); w != 0 {
				t.Errorf("P2.1: load at %d of %d new words: %d", at, n, w)
			}
			checkLast(t, "P2.1: load of a new word", a, i+1, api.Access{Kind: api.KLoad, At: at})
		}
	}
}

func TestNewOnesShareNothing(t *testing.T) {
	a, b := New(100), New(100)
	a.Store(0, 5)
	a.Poke(99, 6)
	checkWords(t, "P2.1: another new one", b, make([]int, 100))
	checkLast(t, "P2.1: another new one", b, 0, api.Access{})
}

func TestLoadTellsTheWordAndLeavesIt(t *testing.T) {
	for _, n := range sizes() {
		a := full(n)
		want := wordsOf(a)
		for i, at := range there(a) {
			if w := a.Load(at); w != want[at] {
				t.Fatalf("P2.1: load at %d of %d: %d, not %d", at, n, w, want[at])
			}
			checkLast(t, "P2.1: load", a, i+1, api.Access{Kind: api.KLoad, At: at, Old: want[at], New: want[at]})
		}
		checkWords(t, "P2.1: behind loads", a, want)
	}
}

func TestStoreLaysTheWord(t *testing.T) {
	for _, n := range sizes() {
		a := full(n)
		want, accesses := wordsOf(a), 0
		for _, at := range there(a) {
			for _, w := range numbers() {
				a.Store(at, w)
				accesses++
				checkLast(t, "P2.1: store", a, accesses, api.Access{Kind: api.KStore, At: at, Old: want[at], New: w})
				want[at] = w
				if a.Peek(at) != w {
					t.Fatalf("P2.1: stored %d at %d of %d: %d", w, at, n, a.Peek(at))
				}
			}
		}
		checkWords(t, "P2.1: behind stores", a, want)
	}
}

func TestSwapIsDoneOnlyIfTheWordIsTheOldOne(t *testing.T) {
	for _, n := range sizes() {
		a := full(n)
		want := wordsOf(a)
		for _, at := range there(a) {
			for _, was := range numbers() {
				for _, old := range numbers() {
					for _, w := range numbers() {
						checkSwap(t, a, at, was, old, w)
					}
				}
			}
			want[at] = a.Peek(at)
		}
		checkWords(t, "P2.1: behind swaps", a, want)
	}
}

// checkSwap lays was at a place, and swaps there from old to w.
func checkSwap(t *testing.T, a *Arena, at, was, old, w int) {
	t.Helper()
	a.Poke(at, was)
	accesses, is := a.Accesses(), was
	if was == old {
		is = w
	}
	if got := a.Swap(at, old, w); got != (was == old) || a.Peek(at) != is {
		t.Fatalf("P2.1: swap of %d from %d to %d: %v, %d", was, old, w, got, a.Peek(at))
	}
	checkLast(t, "P2.1: swap", a, accesses+1, api.Access{Kind: api.KSwap, At: at, Old: was, New: is, Ok: was == old})
}

func TestSwapForTheSameWordIsDone(t *testing.T) {
	a := New(2)
	if !a.Swap(1, 0, 0) {
		t.Error("P2.1: swap from 0 to 0: false")
	}
	checkLast(t, "P2.1: swap from 0 to 0", a, 1, api.Access{Kind: api.KSwap, At: 1, Ok: true})
	a.Poke(1, -8)
	if !a.Swap(1, -8, -8) {
		t.Error("P2.1: swap from -8 to -8: false")
	}
	checkLast(t, "P2.1: swap from -8 to -8", a, 2, api.Access{Kind: api.KSwap, At: 1, Old: -8, New: -8, Ok: true})
}

func TestOfTwoSwapsFromOneWordOneIsDone(t *testing.T) {
	a := New(3)
	if !a.Swap(2, 0, 4) || a.Swap(2, 0, 5) {
		t.Error("P2.1: not just the first one is done")
	}
	checkLast(t, "P2.1: the second swap", a, 2, api.Access{Kind: api.KSwap, At: 2, Old: 4, New: 4})
	checkWords(t, "P2.1: two swaps", a, []int{0, 0, 4})
}

func TestAddTellsTheWordAsItWas(t *testing.T) {
	for _, n := range sizes() {
		a := full(n)
		want, accesses := wordsOf(a), 0
		for _, at := range there(a) {
			for _, more := range numbers() {
				was := want[at]
				if got := a.Add(at, more); got != was {
					t.Fatalf("P2.1: add of %d at %d of %d: %d, not %d", more, at, n, got, was)
				}
				accesses++
				want[at] = was + more
				checkLast(t, "P2.1: add", a, accesses, api.Access{Kind: api.KAdd, At: at, Old: was, New: was + more})
			}
		}
		checkWords(t, "P2.1: behind adds", a, want)
	}
}

func TestAddGoesRound(t *testing.T) {
	for _, x := range []struct{ was, n, want int }{
		{math.MaxInt, 1, math.MinInt},
		{math.MinInt, -1, math.MaxInt},
		{math.MaxInt, math.MaxInt, -2},
		{math.MinInt, math.MinInt, 0},
		{-1, 1, 0},
		{5, 0, 5},
		{5, -9, -4},
	} {
		a := New(1)
		a.Poke(0, x.was)
		if got := a.Add(0, x.n); got != x.was || a.Peek(0) != x.want {
			t.Errorf("P2.1: %d and %d: told %d, is %d, not %d", x.was, x.n, got, a.Peek(0), x.want)
		}
		checkLast(t, "P2.1: round", a, 1, api.Access{Kind: api.KAdd, At: 0, Old: x.was, New: x.want})
	}
}

func TestAccessesAtPlacesThatArentThere(t *testing.T) {
	for _, n := range sizes() {
		a := full(n)
		want, accesses := wordsOf(a), 0
		for _, at := range nowhere(a) {
			if a.Load(at) != 0 {
				t.Errorf("P2.1: load at %d of %d: not 0", at, n)
			}
			checkLast(t, "P2.1: load nowhere", a, accesses+1, api.Access{Kind: api.KLoad, At: at})
			a.Store(at, 5)
			checkLast(t, "P2.1: store nowhere", a, accesses+2, api.Access{Kind: api.KStore, At: at})
			if a.Swap(at, 0, 6) || a.Swap(at, 0, 0) || a.Swap(at, 5, 6) {
				t.Errorf("P2.1: swap at %d of %d: done", at, n)
			}
			checkLast(t, "P2.1: swap nowhere", a, accesses+5, api.Access{Kind: api.KSwap, At: at})
			if a.Add(at, 7) != 0 || a.Add(at, 7) != 0 {
				t.Errorf("P2.1: add at %d of %d: not 0", at, n)
			}
			checkLast(t, "P2.1: add nowhere", a, accesses+7, api.Access{Kind: api.KAdd, At: at})
			accesses += 7
		}
		checkWords(t, "P2.1: behind accesses nowhere", a, want)
	}
}

func TestTheFirstAndTheLastPlaceAreThere(t *testing.T) {
	for _, n := range sizes() {
		for _, at := range []int{0, n - 1} {
			a := New(n)
			a.Store(at, 3)
			if a.Load(at) != 3 || !a.Swap(at, 3, 4) || a.Add(at, 5) != 4 || a.Peek(at) != 9 {
				t.Errorf("P2.1: at %d of %d: %d", at, n, a.Peek(at))
			}
			checkLast(t, "P2.1: the first, the last place", a, 4, api.Access{Kind: api.KAdd, At: at, Old: 4, New: 9})
		}
	}
}

// P2.2

func TestPeekAndPokeAreNoAccess(t *testing.T) {
	for _, n := range sizes() {
		for _, accessed := range []bool{false, true} {
			a := New(n)
			accesses, last := 0, api.Access{}
			if accessed {
				a.Add(n-1, 8)
				accesses, last = 1, api.Access{Kind: api.KAdd, At: n - 1, New: 8}
			}
			for _, at := range there(a) {
				for _, w := range numbers() {
					a.Poke(at, w)
					if a.Peek(at) != w {
						t.Fatalf("P2.2: laid %d at %d of %d: %d", w, at, n, a.Peek(at))
					}
					checkLast(t, "P2.2: peek and poke", a, accesses, last)
				}
			}
		}
	}
}

func TestPokeLaysWhatAccessesMeet(t *testing.T) {
	for _, n := range sizes() {
		a := New(n)
		for _, at := range there(a) {
			a.Poke(at, 7)
			if a.Load(at) != 7 || !a.Swap(at, 7, 8) || a.Peek(at) != 8 {
				t.Errorf("P2.2: laid at %d of %d: %d", at, n, a.Peek(at))
			}
		}
	}
}

func TestPeekAndPokeAtPlacesThatArentThere(t *testing.T) {
	for _, n := range sizes() {
		a := full(n)
		a.Load(0)
		want := wordsOf(a)
		for _, at := range nowhere(a) {
			a.Poke(at, 5)
			if a.Peek(at) != 0 {
				t.Errorf("P2.2: peek at %d of %d: %d", at, n, a.Peek(at))
			}
		}
		checkWords(t, "P2.2: behind pokes nowhere", a, want)
		checkLast(t, "P2.2: behind pokes nowhere", a, 1, api.Access{Kind: api.KLoad, Old: 1, New: 1})
	}
}

func TestCopyIsAlike(t *testing.T) {
	for _, n := range sizes() {
		a := full(n)
		checkLast(t, "P2.2: copy of one without accesses", a.Copy(), 0, api.Access{})
		a.Load(0)
		a.Swap(n-1, a.Peek(n-1), 77)
		b := a.Copy()
		checkWords(t, "P2.2: copy", b, wordsOf(a))
		checkLast(t, "P2.2: copy", b, 2, a.Last())
		c := b.Copy()
		checkWords(t, "P2.2: copy of a copy", c, wordsOf(a))
		checkLast(t, "P2.2: copy of a copy", c, 2, a.Last())
	}
}

func TestCopySharesNothing(t *testing.T) {
	for _, n := range sizes() {
		a := full(n)
		a.Store(0, 2)
		was, last := wordsOf(a), a.Last()

		b := a.Copy()
		for at := range n {
			b.Poke(at, -1)
		}
		b.Add(n-1, 4)
		checkWords(t, "P2.2: the one that was copied", a, was)
		checkLast(t, "P2.2: the one that was copied", a, 1, last)

		c := a.Copy()
		for at := range n {
			a.Store(at, -2)
		}
		checkWords(t, "P2.2: the copy", c, was)
		checkLast(t, "P2.2: the copy", c, 1, last)
		checkLast(t, "P2.2: the other copy", b, 2, api.Access{Kind: api.KAdd, At: n - 1, Old: -1, New: 3})
	}
}

// P2.3

// some gives numbers that look mixed, the same ones each time.
type some struct{ state uint64 }

func (s *some) below(n int) int {
	s.state = s.state*6364136223846793005 + 1442695040888963407
	return int(s.state>>33) % n
}

// act does one access, or looks at, or lays a word; places and words are so few that swaps are often done.
func act(s *some, a *Arena) (access bool) {
	at, w, kind := s.below(a.Len()+4)-2, s.below(4), s.below(6)
	switch kind {
	case 0:
		a.Load(at)
	case 1:
		a.Store(at, w)
	case 2:
		a.Swap(at, w, s.below(4))
	case 3:
		a.Add(at, w-1)
	case 4:
		a.Peek(at)
	case 5:
		a.Copy().Poke(at, w)
	}
	return kind < 4
}

// TestWhatIsToldIsWhatWasDone: from what Last tells behind each access, and from that alone, the memory can be made again.
func TestWhatIsToldIsWhatWasDone(t *testing.T) {
	for _, n := range []int{1, 2, 5, 64, 70} {
		s := &some{uint64(n)}
		a, told := New(n), make([]int, n)
		for i, accesses := 0, 0; i < 3000; i++ {
			if act(s, a) {
				accesses++
				x := a.Last()
				if x.At >= 0 && x.At < n {
					if told[x.At] != x.Old {
						t.Fatalf("P2.3: told %+v, but the word was %d", x, told[x.At])
					}
					told[x.At] = x.New
				} else if x.Old != 0 || x.New != 0 || x.Ok {
					t.Fatalf("P2.3: told %+v of no word", x)
				}
			}
			if a.Accesses() != accesses {
				t.Fatalf("P2.3: %d accesses, not %d", a.Accesses(), accesses)
			}
		}
		checkWords(t, "P2.3: as told", a, told)
	}
}

// TestTwoThatAreToldTheSameAreAlike: what is answered hangs on what the arena was told, on nothing else.
func TestTwoThatAreToldTheSameAreAlike(t *testing.T) {
	a, b := New(70), New(70)
	s, r := &some{9}, &some{9}
	for range 2000 {
		act(s, a)
		act(r, b)
		checkLast(t, "P2.3: told the same", a, b.Accesses(), b.Last())
		if s.below(100) == 0 {
			a = a.Copy()
		}
		r.below(100)
	}
	checkWords(t, "P2.3: told the same", a, wordsOf(b))
}
