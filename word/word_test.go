package word

import (
	"math"
	"sync/atomic"
	"testing"

	"armillary/api"
)

// input: what is handed in, and what of it is put into the word.
type input struct{ in, put int }

// edges: each bound, one beside it, one past it, far past it, on both sides; and some between.
func edges(least, most int) []input {
	return []input{
		{least, least}, {least - 1, least}, {least - 2, least}, {least - 1<<21, least}, {least - 1<<40, least}, {math.MinInt, least},
		{least + 1, least + 1}, {5, 5}, {1000, 1000}, {1<<20 - 1, 1<<20 - 1}, {most - 1, most - 1},
		{most, most}, {most + 1, most}, {most + 2, most}, {2 * most, most}, {most + 1<<21, most}, {most + 1<<40, most}, {math.MaxInt, most},
	}
}

func places() []input    { return edges(0, 1<<30) }
func sequences() []input { return edges(0, 1<<30) }
func versions() []input  { return edges(0, 1<<24-4) }
func parts() []input     { return edges(0, 1<<24-4) }
func writers() []input   { return edges(0, 1<<20) }
func values() []input    { return edges(-1, 1<<20) }

// P1.1

func TestNextIsThePlaceTwiceAndTheMark(t *testing.T) {
	for _, at := range places() {
		for bit, mark := range []bool{false, true} {
			w := Next(at.in, mark)
			if w != 2*at.put+bit {
				t.Errorf("P1.1: Next(%d, %v): %d", at.in, mark, w)
			}
			if At(w) != at.put || Marked(w) != mark {
				t.Errorf("P1.1: of Next(%d, %v): %d, %v", at.in, mark, At(w), Marked(w))
			}
		}
	}
}

func TestNextAtItsBounds(t *testing.T) {
	for _, x := range []struct {
		at   int
		mark bool
		want int
	}{
		{5, true, 11}, // the chapter's example
		{0, false, 0},
		{0, true, 1},
		{-1, false, 0},
		{-1, true, 1},
		{math.MinInt, true, 1},
		{1, false, 2},
		{19999, true, 39999},
		{1<<30 - 1, true, 2147483647},
		{1 << 30, false, 2147483648},
		{1 << 30, true, 2147483649},
		{1<<30 + 1, false, 2147483648},
		{math.MaxInt, true, 2147483649},
	} {
		if got := Next(x.at, x.mark); got != x.want {
			t.Errorf("P1.1: Next(%d, %v): %d, not %d", x.at, x.mark, got, x.want)
		}
	}
}

func TestStateIsTheVersionAndGiven(t *testing.T) {
	for _, v := range versions() {
		s := State(v.in)
		if s != v.put+api.Given {
			t.Errorf("P1.1: State(%d): %d", v.in, s)
		}
		if Version(s) != v.put {
			t.Errorf("P1.1: Version of State(%d): %d", v.in, Version(s))
		}
	}
}

func TestStateAtItsBounds(t *testing.T) {
	for _, x := range []struct{ version, want int }{
		{math.MinInt, 3}, {-1, 3}, {0, 3}, {1, 4}, {api.MaxVersions, 1048579},
		{16777211, 16777214}, {16777212, 16777215}, {16777213, 16777215}, {math.MaxInt, 16777215},
	} {
		if got := State(x.version); got != x.want {
			t.Errorf("P1.1: State(%d): %d, not %d", x.version, got, x.want)
		}
	}
}

func TestVersionOfAStateWithoutOne(t *testing.T) {
	for _, x := range []struct{ state, want int }{{api.Empty, -1}, {api.Posted, -1}, {api.Dead, -1}, {api.Given, 0}, {api.Given + 1, 1}} {
		if got := Version(x.state); got != x.want {
			t.Errorf("P1.1: Version(%d): %d, not %d", x.state, got, x.want)
		}
	}
}

// P1.2

func TestClaimIsTheSequenceShiftedAndThePart(t *testing.T) {
	for _, s := range sequences() {
		for _, p := range parts() {
			w := Claim(s.in, p.in)
			if w != s.put*16777216+p.put {
				t.Errorf("P1.2: Claim(%d, %d): %d", s.in, p.in, w)
			}
			if Seq(w) != s.put || Part(w) != p.put {
				t.Errorf("P1.2: of Claim(%d, %d): %d, %d", s.in, p.in, Seq(w), Part(w))
			}
		}
	}
}

func TestClaimAtItsBounds(t *testing.T) {
	for _, x := range []struct{ seq, part, want int }{
		{0, 0, 0},
		{-1, -1, 0},
		{math.MinInt, math.MinInt, 0},
		{0, 1, 1},
		{1, 0, 16777216},
		{1, 1, 16777217},
		{0, 16777212, 16777212},
		{0, 16777213, 16777212},
		{0, 16777216, 16777212},
		{1 << 30, 0, 18014398509481984},
		{1<<30 + 1, 0, 18014398509481984},
		{1 << 30, 16777212, 18014398526259196},
		{math.MaxInt, math.MaxInt, 18014398526259196},
	} {
		if got := Claim(x.seq, x.part); got != x.want {
			t.Errorf("P1.2: Claim(%d, %d): %d, not %d", x.seq, x.part, got, x.want)
		}
	}
}

func TestDataIsTheWriterShiftedAndTheValueAndOne(t *testing.T) {
	for _, w := range writers() {
		for _, v := range values() {
			d := Data(w.in, v.in)
			if d != w.put*2097152+v.put+1 {
				t.Errorf("P1.2: Data(%d, %d): %d", w.in, v.in, d)
			}
			if Writer(d) != w.put || Val(d) != v.put {
				t.Errorf("P1.2: of Data(%d, %d): %d, %d", w.in, v.in, Writer(d), Val(d))
			}
		}
	}
}

func TestDataAtItsBounds(t *testing.T) {
	for _, x := range []struct{ writer, val, want int }{
		{0, -1, 0},
		{0, -2, 0},
		{-1, math.MinInt, 0},
		{0, 0, 1},
		{0, api.MaxVal, 1048577},
		{0, api.MaxVal + 1, 1048577},
		{0, 1 << 21, 1048577},
		{1, -1, 2097152},
		{1, 0, 2097153},
		{7999, 5, 16775118854},
		{1 << 20, -1, 2199023255552},
		{1<<20 + 1, -1, 2199023255552},
		{1 << 20, api.MaxVal, 2199024304129},
		{math.MaxInt, math.MaxInt, 2199024304129},
	} {
		if got := Data(x.writer, x.val); got != x.want {
			t.Errorf("P1.2: Data(%d, %d): %d, not %d", x.writer, x.val, got, x.want)
		}
	}
}

// P1.3

// TestOneWordTellsItsPartsApart: two words are the same only if all their parts are.
func TestOneWordTellsItsPartsApart(t *testing.T) {
	type pair struct{ above, below int }
	tell := func(name string, above, below []input, word func(above, below int) int) {
		seen := map[int]pair{}
		for _, a := range above {
			for _, b := range below {
				w := word(a.in, b.in)
				if w < 0 {
					t.Errorf("P1.3: %s of %d, %d is below 0: %d", name, a.in, b.in, w)
				}
				p, before := seen[w]
				if before && p != (pair{a.put, b.put}) {
					t.Errorf("P1.3: %s of %d, %d is that of %v: %d", name, a.in, b.in, p, w)
				}
				seen[w] = pair{a.put, b.put}
			}
		}
	}
	tell("Next", places(), []input{{0, 0}, {1, 1}}, func(at, mark int) int { return Next(at, mark == 1) })
	tell("State", []input{{0, 0}}, versions(), func(_, version int) int { return State(version) })
	tell("Claim", sequences(), parts(), Claim)
	tell("Data", writers(), values(), Data)
}

// TestOneAccessSeesAllOfAWord: a swap that expects one part only is refused once the other one has changed.
func TestOneAccessSeesAllOfAWord(t *testing.T) {
	for _, x := range []struct {
		name              string
		was, is, expected int
	}{
		{"a next, marked meanwhile", Next(9, false), Next(9, true), Next(9, false)},
		{"a next, led elsewhere meanwhile", Next(9, false), Next(12, false), Next(9, false)},
		{"a claim, helped meanwhile", Claim(3, 1), Claim(3, 2), Claim(3, 1)},
		{"a claim, of a later scan meanwhile", Claim(3, 1), Claim(4, 1), Claim(3, 1)},
		{"data, of another writer meanwhile", Data(7, 1), Data(8, 1), Data(7, 1)},
		{"data, of another value meanwhile", Data(7, 1), Data(7, -1), Data(7, 1)},
		{"a cell, given meanwhile", api.Posted, State(0), api.Posted},
	} {
		var lies atomic.Int64
		lies.Store(int64(x.was))
		lies.Store(int64(x.is))
		if lies.CompareAndSwap(int64(x.expected), 0) {
			t.Errorf("P1.3: %s: the swap was done", x.name)
		}
		if !lies.CompareAndSwap(int64(x.is), 0) {
			t.Errorf("P1.3: %s: the swap was refused", x.name)
		}
	}
}

// What holds everywhere: all calls take all arguments, and hang on nothing but them.

func TestNoCallPanics(t *testing.T) {
	numbers := []int{math.MinInt, -1 << 32, -2, -1, 0, 1, 2, 3, 1 << 24, 1 << 54, math.MaxInt}
	all := func() []int {
		var l []int
		for _, n := range numbers {
			bit := 0
			if Marked(n) {
				bit = 1
			}
			l = append(l, bit, At(n), State(n), Version(n), Seq(n), Part(n), Writer(n), Val(n), Next(n, true), Next(n, false))
			for _, m := range numbers {
				l = append(l, Claim(n, m), Data(n, m))
			}
		}
		return l
	}
	first, second := all(), all()
	for i := range first {
		if first[i] != second[i] {
			t.Errorf("answer %d: %d, then %d", i, first[i], second[i])
		}
	}
}
