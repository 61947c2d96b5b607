package scan

import (
	"fmt"
	"math"
	"slices"
	"testing"

	"armillary/api"
	"armillary/arena"
	"armillary/place"
)

// two threads, chunks of four cells: the Psas are at 3 and 4, the hints at 5 to 8, Head is at 9, the first chunk at 16; a chunk's FCount is one behind it, its FNext two, its cells' states 7, 10, 13, 16.
func two() api.Conf { return api.Conf{Threads: 2, Cap: 4, Words: 80, Versions: 100} }

// confs: each number of threads, each number of cells that may be.
func confs() []api.Conf {
	var l []api.Conf
	for threads := 1; threads <= api.MaxThreads; threads++ {
		for cells := threads + 2; cells <= api.MaxCap; cells++ {
			l = append(l, api.Conf{Threads: threads, Cap: cells, Words: 90, Versions: 1})
		}
	}
	return l
}

// clock, psa, hintOf, head: where the document lays them.
const clock = 1

func psa(thread int) int { return 3 + thread }

func hintOf(c api.Conf, key int) int { return 3 + c.Threads + key/16 }

func head(c api.Conf) int { return 3 + c.Threads + 4 }

// greatest version that a word holds, and the greatest part.
const greatest = 1<<24 - 4

// claimed: a Psa's word, of that sequence and part.
func claimed(seq, part int) int { return seq<<24 + part }

// noNumbers: of places, keys, counts and words, those that are none.
func noNumbers() []int {
	return []int{math.MinInt, math.MinInt + 1, -1 << 62, -1 << 40, -20000, -64, -17, -16, -7, -6, -2, -1, 64, 20000, 20001, 1 << 40, 1 << 62, math.MaxInt - 6, math.MaxInt - 1, math.MaxInt}
}

func made(t *testing.T, c api.Conf) *arena.Arena {
	t.Helper()
	a, err := place.Make(c)
	if err != nil {
		t.Fatalf("P3.2: Make of %+v: %v", c, err)
	}
	return a
}

// data of that writer and value; val -1: what is deleted.
func data(writer, val int) int { return writer<<21 + val + 1 }

// given, posted, dead, empty: cells of that key.
func given(version, key, data int) api.Cell {
	return api.Cell{State: 3 + version, Key: key, Data: data}
}

func posted(key, data int) api.Cell { return api.Cell{State: 1, Key: key, Data: data} }

func dead(key, data int) api.Cell { return api.Cell{State: 2, Key: key, Data: data} }

func empty(key, data int) api.Cell { return api.Cell{State: 0, Key: key, Data: data} }

// chunk: what a scan asks of one.
type chunk struct {
	at, least, next, status, count int
	cells                          []api.Cell
}

// of: a chunk that counts its cells; next is the place of the one behind.
func of(at, least, next int, cells ...api.Cell) chunk {
	return chunk{at: at, least: least, next: 2 * next, count: len(cells), cells: cells}
}

// laid: an arena with this clock and these chunks, and with some accesses behind it.
func laid(t *testing.T, now int, l ...chunk) *arena.Arena {
	t.Helper()
	a := made(t, two())
	a.Store(0, 5)
	a.Swap(0, 5, 6)
	a.Poke(clock, now)
	for _, x := range l {
		lay(a, x)
	}
	return a
}

// lay: where no cell is told one stands that anybody would take for an item of the chunk's least key.
func lay(a *arena.Arena, x chunk) {
	for i := range 4 {
		cell := given(0, x.least, 3)
		if i < len(x.cells) {
			cell = x.cells[i]
		}
		layCell(a, x.at+7+3*i, cell)
	}
	for f, word := range []int{x.least, x.count, x.next, 3, 3, 3, x.status} {
		a.Poke(x.at+f, word)
	}
}

func layCell(a *arena.Arena, at int, x api.Cell) {
	a.Poke(at, x.State)
	a.Poke(at+1, x.Key)
	a.Poke(at+2, x.Data)
}

// three chunks, at 16, 54, 35, of the keys from 0, 20, 40 on; the clock is at 6.
func three(t *testing.T) *arena.Arena {
	t.Helper()
	return laid(t, 6,
		of(16, 0, 54, given(3, 5, data(9, 6)), dead(5, data(8, 8)), given(7, 5, data(7, 0)), given(1, 0, data(3, 2))),
		of(54, 20, 35, posted(25, data(1002, 7)), given(4, 26, data(5, api.MaxVal)), given(5, 27, data(6, -1)), posted(28, data(4, -1))),
		of(35, 40, 0, given(6, 63, data(0, 1)), empty(63, data(2, 2)), given(2, 63, data(2, 3)), given(8, 41, data(2, 4))))
}

func load(at, word int) api.Access { return api.Access{Kind: api.KLoad, At: at, Old: word, New: word} }

func store(at, old, word int) []api.Access {
	return []api.Access{{Kind: api.KStore, At: at, Old: old, New: word}}
}

func add(at, old int) []api.Access {
	return []api.Access{{Kind: api.KAdd, At: at, Old: old, New: old + 1}}
}

// swap: one that is done; vain: one that found that word.
func swap(at, old, word int) []api.Access {
	return []api.Access{{Kind: api.KSwap, At: at, Old: old, New: word, Ok: true}}
}

func vain(at, word int) []api.Access {
	return []api.Access{{Kind: api.KSwap, At: at, Old: word, New: word}}
}

// loads: of these places these words.
func loads(placesAndWords ...int) []api.Access {
	var l []api.Access
	for i := 0; i < len(placesAndWords); i += 2 {
		l = append(l, load(placesAndWords[i], placesAndWords[i+1]))
	}
	return l
}

func then(parts ...[]api.Access) []api.Access { return slices.Concat(parts...) }

// claims: claim's lines, if nobody else does anything.
func claims(thread, seq, was, now int) []api.Access {
	at, asks, has := psa(thread), claimed(seq, 1), claimed(seq, now+2)
	return then(loads(clock, now), store(at, was, asks), add(clock, now), swap(at, asks, has), loads(at, has))
}

// leaves: the last line, behind claims.
func leaves(thread, seq, now int) []api.Access {
	return store(psa(thread), claimed(seq, now+2), claimed(seq, 0))
}

// told: the answer of that version; the pairs as keys and values.
func told(version int, keysAndVals ...int) api.Answer {
	answer := api.Answer{Writer: -1, Version: version}
	for i := 0; i < len(keysAndVals); i += 2 {
		answer.Pairs = append(answer.Pairs, api.Pair{Key: keysAndVals[i], Val: keysAndVals[i+1]})
	}
	return answer
}

func noneLeft() api.Answer { return api.Answer{Code: 15} }

func same(x, y api.Answer) bool {
	return x.Code == y.Code && x.Found == y.Found && x.Val == y.Val && x.Writer == y.Writer && x.Version == y.Version && slices.Equal(x.Pairs, y.Pairs)
}

// is: that answer, however often it is asked, and whatever is done with the pairs that were answered.
func is(t *testing.T, what string, s *Scan, want api.Answer) {
	t.Helper()
	want.Pairs = slices.Clone(want.Pairs)
	for range 3 {
		got := s.Answer()
		if !same(got, want) {
			t.Errorf("%s: Answer: %+v, not %+v", what, got, want)
		}
		room := got.Pairs[:cap(got.Pairs)]
		for i := range room {
			room[i] = api.Pair{Key: -1, Val: -1}
		}
	}
}

func words(a *arena.Arena) []int {
	l := make([]int, a.Len())
	for at := range l {
		l[at] = a.Peek(at)
	}
	return l
}

// step: one that isn't behind the end: its access, and whether it has ended. It is one access, and changes no word but the one that it tells.
func step(t *testing.T, s *Scan, a *arena.Arena) (api.Access, bool) {
	t.Helper()
	is(t, "P14.2: ahead of the end", s, api.Answer{})
	want, n := words(a), a.Accesses()
	over := s.Step(a)
	last := a.Last()
	if a.Accesses() != n+1 {
		t.Fatalf("P14.1: a step of %d accesses, the last one %+v", a.Accesses()-n, last)
	}
	if last.At >= 0 && last.At < len(want) {
		want[last.At] = last.New
	}
	if !slices.Equal(words(a), want) {
		t.Fatalf("P14.1: %+v changes another word", last)
	}
	return last, over
}

// behind its end: no access, nothing changed, true, whatever the words are by now.
func behind(t *testing.T, s *Scan, a *arena.Arena) {
	t.Helper()
	answer, other := s.Answer(), a.Copy()
	for at := range other.Len() {
		other.Poke(at, 1)
	}
	for _, b := range []*arena.Arena{a, a, other, arena.New(1), a} {
		was, n, last := words(b), b.Accesses(), b.Last()
		if !s.Step(b) {
			t.Error("P14.1: behind its end Step tells false")
		}
		if b.Accesses() != n || b.Last() != last || !slices.Equal(words(b), was) {
			t.Errorf("P14.1: behind its end Step does something: %+v", b.Last())
		}
		is(t, "P14.2: behind its end", s, answer)
	}
}

// mostSteps that a scan is followed for, as a chain may come round.
const mostSteps = 150

// change: between this step (of so many that are behind it) and the next one, by others.
type change struct{ behind, at, word int }

func do(a *arena.Arena, changes []change, behind int) {
	for _, x := range changes {
		if x.behind == behind {
			a.Poke(x.at, x.word)
		}
	}
}

// amid: all that s does, while a is changed.
func amid(t *testing.T, s *Scan, a *arena.Arena, changes ...change) []api.Access {
	t.Helper()
	var done []api.Access
	for range mostSteps {
		do(a, changes, len(done))
		x, over := step(t, s, a)
		done = append(done, x)
		if over {
			do(a, changes, len(done))
			behind(t, s, a)
			break
		}
	}
	return done
}

// asked: what a scan is made of, but the configuration.
type asked struct{ thread, seq, lo, hi int }

func (x asked) scan(c api.Conf) *Scan { return New(c, x.thread, x.seq, x.lo, x.hi) }

// tells this answer, by these accesses; likewise when it is asked again, as it was.
func tells(t *testing.T, what string, c api.Conf, a *arena.Arena, x asked, answer api.Answer, want []api.Access) {
	t.Helper()
	for range 2 {
		s := x.scan(c)
		if got := amid(t, s, a.Copy()); !slices.Equal(got, want) {
			t.Errorf("%s: %+v: %v, not %v", what, x, got, want)
		}
		is(t, fmt.Sprintf("%s: %+v", what, x), s, answer)
	}
}

// memory: what lines asks, of words that others change ahead of its accesses; behind mostSteps all words are 0.
type memory struct {
	words   *arena.Arena
	changes []change
	done    []api.Access
	tooLong bool
}

// did one access, of the kind and to the word that the one that is there tells.
func (m *memory) did(at int, access func(was int) api.Access) int {
	if len(m.done) == mostSteps {
		m.tooLong = true
		return 0
	}
	do(m.words, m.changes, len(m.done))
	was := m.words.Peek(at)
	x := access(was)
	x.At, x.Old = at, was
	m.words.Poke(at, x.New)
	x.New = m.words.Peek(at)
	m.done = append(m.done, x)
	return was
}

func (m *memory) load(at int) int {
	return m.did(at, func(was int) api.Access { return api.Access{Kind: api.KLoad, New: was} })
}

func (m *memory) store(at, word int) {
	m.did(at, func(was int) api.Access { return api.Access{Kind: api.KStore, New: word} })
}

func (m *memory) add(at int) int {
	return m.did(at, func(was int) api.Access { return api.Access{Kind: api.KAdd, New: was + 1} })
}

func (m *memory) swap(at, old, word int) {
	m.did(at, func(was int) api.Access {
		if was != old || at < 0 || at >= m.words.Len() {
			return api.Access{Kind: api.KSwap, New: was}
		}
		return api.Access{Kind: api.KSwap, New: word, Ok: true}
	})
}

// lines: P14.1's and P14.2's, told once more.
func lines(c api.Conf, x asked, m *memory) api.Answer {
	if x.lo > x.hi {
		return told(0)
	}
	if m.load(clock) >= c.Versions {
		return noneLeft()
	}
	version := toVersion(x, m)
	at := toChunk(c, x.lo, m)
	var vals [64]int // a value and 1
	for {
		for key, val := range inChunk(c, at, version, x, m) {
			vals[key] = val + 1
		}
		n := placeOf(m.load(at + 2))
		if n == 0 || m.load(n) > x.hi {
			break
		}
		at = n
	}
	m.store(psa(x.thread), claimed(x.seq, 0))
	answer := told(version)
	for key, val := range vals {
		if val > 0 {
			answer.Pairs = append(answer.Pairs, api.Pair{Key: key, Val: val - 1})
		}
	}
	return answer
}

// placeOf: of a place twice, and a mark, the place.
func placeOf(next int) int { return int(uint64(next) >> 1) }

// toVersion: claim's, behind the first one.
func toVersion(x asked, m *memory) int {
	m.store(psa(x.thread), claimed(x.seq, 1))
	v := m.add(clock)
	m.swap(psa(x.thread), claimed(x.seq, 1), claimed(x.seq, min(v+2, greatest)))
	return m.load(psa(x.thread))&(1<<24-1) - 2
}

// toChunk: walk's.
func toChunk(c api.Conf, key int, m *memory) int {
	cur := head(c)
	if x := m.load(hintOf(c, key)); x != 0 && m.load(x+6) == 0 && m.load(x) <= key {
		cur = x
	}
	for {
		n := placeOf(m.load(cur + 2))
		if n == 0 || m.load(n) > key {
			return cur
		}
		cur = n
	}
}

// inChunk: look's: values by key.
func inChunk(c api.Conf, chunk, most int, x asked, m *memory) map[int]int {
	vals, versions := map[int]int{}, map[int]int{}
	n := m.load(chunk + 1)
	for i := 0; i < n && i < c.Cap; i++ {
		at := chunk + 7 + 3*i
		s := m.load(at)
		if s <= 0 || s == 2 {
			continue
		}
		key := m.load(at + 1)
		if key < x.lo || key > x.hi {
			continue
		}
		if s == 1 {
			m.swap(at, 1, 3+min(max(m.load(clock), 0), greatest))
			s = m.load(at)
		}
		if s < 3 || s-3 > most || s-3 < versions[key] {
			continue
		}
		versions[key], vals[key] = s-3, m.load(at+2)&(1<<21-1)-1
	}
	return vals
}

// followsLines amid these changes; what lines did.
func followsLines(t *testing.T, c api.Conf, x asked, a *arena.Arena, changes ...change) *memory {
	t.Helper()
	m := &memory{words: a.Copy(), changes: changes}
	answer := lines(c, x, m)
	if m.tooLong {
		answer = api.Answer{}
	}
	s := x.scan(c)
	what := fmt.Sprintf("P14.1: %+v amid %v", x, changes)
	if got := amid(t, s, a, changes...); !slices.Equal(got, m.done) {
		t.Errorf("%s: %v, not %v", what, got, m.done)
	}
	is(t, what, s, answer)
	return m
}

// P14.1: the lines

func TestANewArena(t *testing.T) {
	for _, c := range confs() {
		first := head(c) + 7
		for thread := range c.Threads {
			for _, x := range [][2]int{{0, 0}, {0, 63}, {5, 5}, {5, 30}, {17, 40}, {63, 63}} {
				walk := loads(hintOf(c, x[0]), 0, head(c)+2, 2*first, first, 0, first+2, 0)
				want := then(claims(thread, 1, 0, 0), walk, loads(first+1, 0, first+2, 0), leaves(thread, 1, 0))
				tells(t, fmt.Sprintf("P14.1: %+v", c), c, made(t, c), asked{thread, 1, x[0], x[1]}, told(0), want)
			}
		}
	}
}

// TestWordByWord: the accesses in numbers.
func TestWordByWord(t *testing.T) {
	a := laid(t, 7, of(16, 0, 0, posted(5, data(2, 3)), given(7, 6, data(2, 4))))
	a.Poke(4, 0x2000005)
	want := []api.Access{
		{Kind: api.KLoad, At: 1, Old: 7, New: 7},
		{Kind: api.KStore, At: 4, Old: 0x2000005, New: 0x3000001},
		{Kind: api.KAdd, At: 1, Old: 7, New: 8},
		{Kind: api.KSwap, At: 4, Old: 0x3000001, New: 0x3000009, Ok: true},
		{Kind: api.KLoad, At: 4, Old: 0x3000009, New: 0x3000009},
		{Kind: api.KLoad, At: 5},
		{Kind: api.KLoad, At: 11, Old: 32, New: 32},
		{Kind: api.KLoad, At: 16},
		{Kind: api.KLoad, At: 18},
		{Kind: api.KLoad, At: 17, Old: 2, New: 2},
		{Kind: api.KLoad, At: 23, Old: 1, New: 1},
		{Kind: api.KLoad, At: 24, Old: 5, New: 5},
		{Kind: api.KLoad, At: 1, Old: 8, New: 8},
		{Kind: api.KSwap, At: 23, Old: 1, New: 11, Ok: true},
		{Kind: api.KLoad, At: 23, Old: 11, New: 11},
		{Kind: api.KLoad, At: 26, Old: 10, New: 10},
		{Kind: api.KLoad, At: 27, Old: 6, New: 6},
		{Kind: api.KLoad, At: 28, Old: 0x400005, New: 0x400005},
		{Kind: api.KLoad, At: 18},
		{Kind: api.KStore, At: 4, Old: 0x3000009, New: 0x3000000},
	}
	tells(t, "P14.1: word by word", two(), a, asked{1, 3, 0, 63}, told(7, 6, 4), want)
}

// TestRanges: of one key, of all keys, of a part; one chunk and several.
func TestRanges(t *testing.T) {
	claim, end := claims(1, 3, 0, 6), leaves(1, 3, 6)
	toFirst := loads(11, 32, 16, 0, 18, 108, 54, 20)
	toMiddle := then(toFirst, loads(56, 70, 35, 40))
	toLast := then(toMiddle, loads(37, 0))
	behindFirst, behindMiddle, behindLast := loads(18, 108, 54, 20), loads(56, 70, 35, 40), loads(37, 0)
	five := loads(23, 6, 24, 5, 25, data(9, 6), 26, 2, 29, 10, 30, 5)
	first := then(loads(17, 4), five, loads(32, 4, 33, 0, 34, data(3, 2)))
	middle := then(loads(55, 4, 61, 1, 62, 25, clock, 7), swap(61, 1, 10), loads(61, 10, 64, 7, 65, 26, 66, data(5, api.MaxVal), 67, 8, 68, 27, 69, data(6, -1), 70, 1, 71, 28, clock, 7), swap(70, 1, 10), loads(70, 10))
	last := loads(36, 4, 42, 9, 43, 63, 44, data(0, 1), 45, 0, 48, 5, 49, 63, 51, 11, 52, 41)
	noFive := loads(17, 4, 23, 6, 24, 5, 26, 2, 29, 10, 30, 5, 32, 4, 33, 0)
	for _, x := range []struct {
		what   string
		lo, hi int
		want   []api.Access
		answer api.Answer
	}{
		{"all keys", 0, 63, then(loads(5, 0), toFirst, first, behindFirst, middle, behindMiddle, last, behindLast), told(6, 0, 2, 5, 6, 26, api.MaxVal, 63, 1)},
		{"one key", 5, 5, then(loads(5, 0), toFirst, loads(17, 4), five, loads(32, 4, 33, 0), behindFirst), told(6, 5, 6)},
		{"the least key", 0, 0, then(loads(5, 0), toFirst, noFive, loads(34, data(3, 2)), behindFirst), told(6, 0, 2)},
		{"the greatest key", 63, 63, then(loads(8, 0), toLast, loads(36, 4, 42, 9, 43, 63, 44, data(0, 1), 45, 0, 48, 5, 49, 63, 51, 11, 52, 41), behindLast), told(6, 63, 1)},
		{"one key that isn't there", 6, 6, then(loads(5, 0), toFirst, noFive, behindFirst), told(6)},
		{"one that has no version yet", 25, 25, then(loads(6, 0), toMiddle, loads(55, 4, 61, 1, 62, 25, clock, 7), swap(61, 1, 10), loads(61, 10, 64, 7, 65, 26, 67, 8, 68, 27, 70, 1, 71, 28), behindMiddle), told(6)},
		{"one that is deleted", 27, 27, then(loads(6, 0), toMiddle, loads(55, 4, 61, 1, 62, 25, 64, 7, 65, 26, 67, 8, 68, 27, 69, data(6, -1), 70, 1, 71, 28), behindMiddle), told(6)},
		{"one of a version above its own", 41, 41, then(loads(7, 0), toLast, loads(36, 4, 42, 9, 43, 63, 45, 0, 48, 5, 49, 63, 51, 11, 52, 41), behindLast), told(6)},
		{"to just ahead of the next chunk", 5, 19, then(loads(5, 0), toFirst, loads(17, 4), five, loads(32, 4, 33, 0), behindFirst), told(6, 5, 6)},
		{"to the next chunk's least key", 5, 20, then(loads(5, 0), toFirst, loads(17, 4), five, loads(32, 4, 33, 0), behindFirst, loads(55, 4, 61, 1, 62, 25, 64, 7, 65, 26, 67, 8, 68, 27, 70, 1, 71, 28), behindMiddle), told(6, 5, 6)},
		{"from a chunk's last key on", 19, 26, then(loads(6, 0), toFirst, noFive, behindFirst, loads(55, 4, 61, 1, 62, 25, clock, 7), swap(61, 1, 10), loads(61, 10, 64, 7, 65, 26, 66, data(5, api.MaxVal), 67, 8, 68, 27, 70, 1, 71, 28), behindMiddle), told(6, 26, api.MaxVal)},
		{"of a middle chunk", 20, 39, then(loads(6, 0), toMiddle, middle, behindMiddle), told(6, 26, api.MaxVal)},
		{"from a middle chunk on", 28, 63, then(loads(6, 0), toMiddle, loads(55, 4, 61, 1, 62, 25, 64, 7, 65, 26, 67, 8, 68, 27, 70, 1, 71, 28, clock, 7), swap(70, 1, 10), loads(70, 10), behindMiddle, last, behindLast), told(6, 63, 1)},
		{"of the last chunk", 40, 63, then(loads(7, 0), toLast, last, behindLast), told(6, 63, 1)},
		{"of nothing", 42, 62, then(loads(7, 0), toLast, loads(36, 4, 42, 9, 43, 63, 45, 0, 48, 5, 49, 63, 51, 11, 52, 41), behindLast), told(6)},
	} {
		tells(t, "P14.1: "+x.what, two(), three(t), asked{1, 3, x.lo, x.hi}, x.answer, then(claim, x.want, end))
	}
}

// TestEachRange of all: what is there of its keys, no more and no less.
func TestEachRange(t *testing.T) {
	all := told(6, 0, 2, 5, 6, 26, api.MaxVal, 63, 1)
	for lo := range api.MaxKey + 1 {
		for hi := lo; hi <= api.MaxKey; hi++ {
			a, s := three(t), New(two(), 0, 1, lo, hi)
			for range mostSteps {
				if s.Step(a) {
					break
				}
			}
			want := told(6)
			for _, x := range all.Pairs {
				if x.Key >= lo && x.Key <= hi {
					want.Pairs = append(want.Pairs, x)
				}
			}
			is(t, fmt.Sprintf("P14.2: from %d to %d", lo, hi), s, want)
			for at, key := range map[int]int{61: 25, 70: 28} {
				if met := a.Peek(at) == 10; met != (key >= lo && key <= hi) || !met && a.Peek(at) != 1 {
					t.Errorf("P14.1: from %d to %d: the posted one of %d is %d", lo, hi, key, a.Peek(at))
				}
			}
		}
	}
}

// TestNoRange: of lo above hi the first step ends it, without an access, also where no version is left.
func TestNoRange(t *testing.T) {
	for _, x := range [][2]int{{1, 0}, {6, 5}, {63, 0}, {63, 62}, {20, 19}, {40, 5}} {
		for _, now := range []int{0, 6, 99, 100, 1000} {
			for thread := range 2 {
				a, s := three(t), New(two(), thread, 1, x[0], x[1])
				a.Poke(clock, now)
				was, n, last := words(a), a.Accesses(), a.Last()
				is(t, "P14.2: ahead of the end", s, api.Answer{})
				if !s.Step(a) || a.Accesses() != n || a.Last() != last || !slices.Equal(words(a), was) {
					t.Errorf("P14.1: %v: %d accesses, the last one %+v", x, a.Accesses()-n, a.Last())
				}
				is(t, fmt.Sprint("P14.2: no range: ", x), s, told(0))
				behind(t, s, a)
			}
		}
	}
}

// TestClocks: below Versions each one is the version; at and above it there is none, and no word is changed.
func TestClocks(t *testing.T) {
	for _, now := range []int{0, 1, 5, 6, 50, 98, 99} {
		a := laid(t, now, of(16, 0, 0, given(5, 7, data(1, 1))))
		want, answer := then(claims(0, 1, 0, now), loads(5, 0, 11, 32, 16, 0, 18, 0, 17, 1, 23, 8, 24, 7)), told(now)
		if now >= 5 {
			want, answer = append(want, load(25, data(1, 1))), told(now, 7, 1)
		}
		tells(t, fmt.Sprint("P14.1: clock ", now), two(), a, asked{0, 1, 0, 63}, answer, then(want, loads(18, 0), leaves(0, 1, now)))
	}
	for _, now := range []int{100, 101, 102, 1000, 1 << 20, 1 << 30, 1 << 62, math.MaxInt} {
		tells(t, "P14.1: none left", two(), laid(t, now, of(16, 0, 0, given(5, 7, data(1, 1)))), asked{1, 4, 0, 63}, noneLeft(), loads(clock, now))
	}
	for _, c := range confs() {
		a := made(t, c)
		a.Poke(clock, 1)
		tells(t, fmt.Sprintf("P14.1: none left: %+v", c), c, a, asked{c.Threads - 1, 2, 0, 63}, noneLeft(), loads(clock, 1))
	}
}

// TestThreadsAndSequences: whose Psa is taken, and by what; no other one is touched.
func TestThreadsAndSequences(t *testing.T) {
	for _, c := range confs() {
		first := head(c) + 7
		for thread := range c.Threads {
			for _, seq := range []int{1, 2, 3, 1000, 1 << 20, 1<<30 - 1, 1 << 30} {
				a := made(t, c)
				for other := range c.Threads {
					a.Poke(psa(other), claimed(7, other+1))
				}
				want := then(claims(thread, seq, claimed(7, thread+1), 0), loads(hintOf(c, 20), 0, head(c)+2, 2*first, first, 0, first+2, 0, first+1, 0, first+2, 0), leaves(thread, seq, 0))
				tells(t, fmt.Sprintf("P14.1: %+v", c), c, a, asked{thread, seq, 20, 63}, told(0), want)
			}
		}
	}
	for _, seq := range []int{1<<30 + 1, 1 << 40, math.MaxInt} {
		want := then(claims(1, 1<<30, 0, 0), loads(5, 0, 11, 32, 16, 0, 18, 0, 17, 0, 18, 0), leaves(1, 1<<30, 0))
		tells(t, "P14.1: a sequence that is too great", two(), made(t, two()), asked{1, seq, 0, 9}, told(0), want)
	}
}

// TestOneBehindTheOther: a thread's scans, of rising sequences; each leaves its Psa without a version, and the clock above its own.
func TestOneBehindTheOther(t *testing.T) {
	a := laid(t, 0, of(16, 0, 0, given(0, 5, data(1, 1)), given(2, 5, data(2, 2)), given(3, 5, data(3, -1)), given(50, 5, data(4, 4))))
	var was [2]int
	for version := range 100 {
		thread, seq := version%2, version/2+1
		answer, cells := told(version), loads(23, 3, 24, 5, 25, data(1, 1))
		for i, x := range []int{2, 3, 50} {
			if cells = append(cells, loads(26+3*i, 3+x, 27+3*i, 5)...); version >= x {
				cells = append(cells, load(28+3*i, a.Peek(28+3*i)))
			}
		}
		switch {
		case version < 2:
			answer = told(version, 5, 1)
		case version < 3:
			answer = told(version, 5, 2)
		case version >= 50:
			answer = told(version, 5, 4)
		}
		want := then(claims(thread, seq, was[thread], version), loads(5, 0, 11, 32, 16, 0, 18, 0, 17, 4), cells, loads(18, 0), leaves(thread, seq, version))
		s := New(two(), thread, seq, 0, 9)
		if got := amid(t, s, a); !slices.Equal(got, want) {
			t.Errorf("P14.1: version %d: %v, not %v", version, got, want)
		}
		is(t, "P14.2: one behind the other", s, answer)
		was[thread] = claimed(seq, 0)
		if a.Peek(clock) != version+1 || a.Peek(psa(thread)) != was[thread] {
			t.Errorf("P14.3: behind version %d the clock is %d, the Psa %d", version, a.Peek(clock), a.Peek(psa(thread)))
		}
	}
	tells(t, "P14.1: all are taken", two(), a, asked{0, 51, 0, 9}, noneLeft(), loads(clock, 100))
}

// TestTheNextLeastKey: just hi, one above it, one below it, and what is none.
func TestTheNextLeastKey(t *testing.T) {
	for _, hi := range []int{5, 6, 30, 62, 63} {
		for _, least := range append(noNumbers(), 0, 1, 5, hi-1, hi, hi+1, 62, 63) {
			a := laid(t, 9, of(16, 0, 0, given(1, 5, data(1, 1))), of(54, 0, 35, given(1, hi, data(2, 2))), of(35, least, 0, given(1, hi, data(3, 3))))
			a.Poke(5, 54) // the walk to 5 begins at the middle chunk, or ends there
			x := asked{0, 1, 5, hi}
			want := then(claims(0, 1, 0, 9), loads(5, 54, 60, 0, 54, 0, 56, 70, 35, least))
			answer := told(9, hi, 2)
			switch middle, last := loads(55, 1, 61, 4, 62, hi, 63, data(2, 2)), loads(36, 1, 42, 4, 43, hi, 44, data(3, 3), 37, 0); {
			case least <= 5:
				want, answer = then(want, loads(37, 0), last), told(9, hi, 3)
			case least <= hi:
				want, answer = then(want, middle, loads(56, 70, 35, least), last), told(9, hi, 3)
			default:
				want = then(want, middle, loads(56, 70, 35, least))
			}
			tells(t, fmt.Sprint("P14.1: least key ", least), two(), a, x, answer, then(want, leaves(0, 1, 9)))
		}
	}
}

// TestNexts: 0 and marked ends the chain; marked and a place doesn't; a place that isn't there is an empty chunk's.
func TestNexts(t *testing.T) {
	start := then(claims(0, 1, 0, 9), loads(5, 0))
	for mark := range 2 {
		a := laid(t, 9, of(16, 0, 0, given(1, 5, data(1, 1))), of(54, 20, 0, given(1, 25, data(2, 2))))
		a.Poke(18, mark)
		first := loads(17, 1, 23, 4, 24, 5, 25, data(1, 1))
		tells(t, "P14.1: the last one's next", two(), a, asked{0, 1, 5, 63}, told(9, 5, 1), then(start, loads(11, 32, 16, 0, 18, mark), first, loads(18, mark), leaves(0, 1, 9)))
		a.Poke(18, 108+mark)
		second := loads(55, 1, 61, 4, 62, 25, 63, data(2, 2), 56, 0)
		tells(t, "P14.1: a next", two(), a, asked{0, 1, 5, 63}, told(9, 5, 1, 25, 2), then(start, loads(11, 32, 16, 0, 18, 108+mark, 54, 20), first, loads(18, 108+mark, 54, 20), second, leaves(0, 1, 9)))
	}
	for _, next := range []int{2 * 80, 2*80 + 1, 2 * 20000, 1 << 40, math.MaxInt, math.MinInt, -1, -2} {
		n := placeOf(next)
		a := laid(t, 9, of(16, 0, 0, given(1, 5, data(1, 1))))
		want := then(start, loads(11, 32, 16, 0, 18, 0, 17, 1, 23, 4, 24, 5, 25, data(1, 1), 18, next, n, 0, n+1, 0, n+2, 0), leaves(0, 1, 9))
		s := New(two(), 0, 1, 5, 63)
		if got := amid(t, s, a, change{9, 18, next}); !slices.Equal(got, want) {
			t.Errorf("P14.1: a next that leads nowhere, %d: %v, not %v", next, got, want)
		}
		is(t, "P14.2: a next that leads nowhere", s, told(9, 5, 1))
	}
}

// TestTheEndAtHead: it is looked through as well; in it nothing is counted.
func TestTheEndAtHead(t *testing.T) {
	a := laid(t, 6, of(16, 6, 0, given(1, 9, data(7, 7))))
	start := then(claims(0, 1, 0, 6), loads(5, 0, 11, 32, 16, 6, 10, 0, 11, 32, 16, 6))
	tells(t, "P14.1: at Head", two(), a, asked{0, 1, 5, 5}, told(6), then(start, leaves(0, 1, 6)))
	tells(t, "P14.1: from Head on", two(), a, asked{0, 1, 5, 9}, told(6, 9, 7), then(start, loads(17, 1, 23, 4, 24, 9, 25, data(7, 7), 18, 0), leaves(0, 1, 6)))
	a.Poke(11, 0)
	tells(t, "P14.1: no chunk", two(), a, asked{0, 1, 0, 63}, told(6), then(claims(0, 1, 0, 6), loads(5, 0, 11, 0, 10, 0, 11, 0), leaves(0, 1, 6)))
}

// TestFrozenChunks are looked through likewise, marked or replaced.
func TestFrozenChunks(t *testing.T) {
	for status := range 3 {
		for mark := range 2 {
			a := laid(t, 9, of(16, 0, 54, given(1, 5, data(1, 1))), of(54, 20, 0, given(1, 25, data(2, 2))))
			a.Poke(18, 108+mark)
			a.Poke(56, mark)
			a.Poke(22, status)
			a.Poke(60, status)
			want := then(claims(0, 1, 0, 9), loads(5, 0, 11, 32, 16, 0, 18, 108+mark, 54, 20, 17, 1, 23, 4, 24, 5, 25, data(1, 1), 18, 108+mark, 54, 20, 55, 1, 61, 4, 62, 25, 63, data(2, 2), 56, mark), leaves(0, 1, 9))
			tells(t, "P14.1: frozen", two(), a, asked{0, 1, 0, 63}, told(9, 5, 1, 25, 2), want)
		}
	}
}

// TestHints: one of a chunk whose status is 0 is taken by the walk to lo.
func TestHints(t *testing.T) {
	claim, end := claims(1, 3, 0, 6), leaves(1, 3, 6)
	last := loads(36, 4, 42, 9, 43, 63, 44, data(0, 1), 45, 0, 48, 5, 49, 63, 51, 11, 52, 41, 37, 0)
	a := three(t)
	a.Poke(8, 54)
	tells(t, "P14.1: a hint", two(), a, asked{1, 3, 50, 63}, told(6, 63, 1), then(claim, loads(8, 54, 60, 0, 54, 20, 56, 70, 35, 40, 37, 0), last, end))
	a.Poke(60, 1)
	tells(t, "P14.1: a hint to a frozen one", two(), a, asked{1, 3, 50, 63}, told(6, 63, 1), then(claim, loads(8, 54, 60, 1, 11, 32, 16, 0, 18, 108, 54, 20, 56, 70, 35, 40, 37, 0), last, end))
}

// TestCounts: as many cells are looked at as the count tells, none of one below 0, no more than a chunk has.
func TestCounts(t *testing.T) {
	for _, c := range confs() {
		for _, count := range append(noNumbers(), 0, 1, 2, 3, c.Cap-1, c.Cap, c.Cap+1, 100) {
			a, at, answer := made(t, c), 30, told(0)
			a.Poke(hintOf(c, 5), at)
			a.Poke(at+1, count)
			want := then(claims(0, 1, 0, 0), loads(hintOf(c, 5), at, at+6, 0, at, 0, at+2, 0, at+1, count))
			for i := range c.Cap + 1 {
				x := at + 7 + 3*i
				layCell(a, x, given(0, 5+i, data(i, 2*i)))
				if i < count && i < c.Cap {
					answer.Pairs = append(answer.Pairs, api.Pair{Key: 5 + i, Val: 2 * i})
					want = append(want, loads(x, 3, x+1, 5+i, x+2, data(i, 2*i))...)
				}
			}
			tells(t, fmt.Sprintf("P14.1: %+v, count %d", c, count), c, a, asked{0, 1, 5, 63}, answer, then(want, loads(at+2, 0), leaves(0, 1, 0)))
		}
	}
}

// P14.2: what is told

// TestSeveralOfOneKey: of two in a chunk, each version against each one, at each clock: the greatest that isn't above the scan's own, of two of one version the last one; none, if that is deleted.
func TestSeveralOfOneKey(t *testing.T) {
	for one := range 5 {
		for other := range 5 {
			for now := range 5 {
				for _, vals := range [][2]int{{0, 1}, {7, -1}, {-1, 7}, {-1, -1}} {
					a, answer := laid(t, now, of(16, 0, 0, given(one, 5, data(1, vals[0])), given(other, 5, data(2, vals[1])))), told(now)
					val := -1
					if one <= now {
						val = vals[0]
					}
					if other <= now && (other >= one || one > now) {
						val = vals[1]
					}
					if val >= 0 {
						answer = told(now, 5, val)
					}
					s := New(two(), 0, 1, 0, 63)
					followsLines(t, two(), asked{0, 1, 0, 63}, a.Copy())
					amid(t, s, a)
					is(t, fmt.Sprintf("P14.2: versions %d, %d of %v, clock %d", one, other, vals, now), s, answer)
				}
			}
		}
	}
}

// TestTheChunkThatCameLast: of a key that is in several chunks its item counts, whatever the versions are; a deleted one, too.
func TestTheChunkThatCameLast(t *testing.T) {
	for _, x := range []struct {
		what                string
		first, middle, last api.Cell
		answer              api.Answer
	}{
		{"rising versions", given(1, 5, data(1, 1)), given(2, 5, data(2, 2)), given(3, 5, data(3, 3)), told(9, 5, 3)},
		{"falling versions", given(3, 5, data(1, 1)), given(2, 5, data(2, 2)), given(1, 5, data(3, 3)), told(9, 5, 3)},
		{"one version", given(3, 5, data(1, 1)), given(3, 5, data(2, 2)), given(3, 5, data(3, 3)), told(9, 5, 3)},
		{"deleted last", given(3, 5, data(1, 1)), given(2, 5, data(2, 2)), given(1, 5, data(3, -1)), told(9)},
		{"deleted first", given(3, 5, data(1, -1)), given(2, 5, data(2, 2)), given(1, 6, data(3, 3)), told(9, 5, 2, 6, 3)},
		{"deleted in the middle", given(3, 5, data(1, 1)), given(2, 5, data(2, -1)), given(1, 6, data(3, 3)), told(9, 6, 3)},
		{"the last one's version is too great", given(3, 5, data(1, 1)), given(2, 5, data(2, 2)), given(10, 5, data(3, 3)), told(9, 5, 2)},
		{"the last one is dead", given(3, 5, data(1, 1)), given(2, 5, data(2, 2)), dead(5, data(3, 3)), told(9, 5, 2)},
		{"the last one is empty", given(3, 5, data(1, 1)), given(2, 5, data(2, 2)), empty(5, data(3, 3)), told(9, 5, 2)},
		{"the last one is posted", given(3, 5, data(1, 1)), given(2, 5, data(2, 2)), posted(5, data(3, 3)), told(9, 5, 2)},
		{"keys that don't rise", given(3, 63, data(1, 1)), given(2, 30, data(2, 2)), given(1, 0, data(3, 3)), told(9, 0, 3, 30, 2, 63, 1)},
	} {
		a := laid(t, 9, of(16, 0, 54, x.first), of(54, 20, 35, x.middle), of(35, 40, 0, x.last))
		s := New(two(), 0, 1, 0, 63)
		followsLines(t, two(), asked{0, 1, 0, 63}, a.Copy())
		amid(t, s, a)
		is(t, "P14.2: "+x.what, s, x.answer)
	}
}

// TestRisingKeys: however they lie, in a chunk of all orders of four.
func TestRisingKeys(t *testing.T) {
	for n := range 4 * 4 * 4 * 4 {
		keys := [4]int{n % 4, n / 4 % 4, n / 16 % 4, n / 64}
		var cells []api.Cell
		vals := map[int]int{}
		for i, key := range keys {
			cells = append(cells, given(3, 10*key, data(i, i)))
			vals[key] = i
		}
		answer := told(5)
		for key := range 4 {
			if val, ok := vals[key]; ok {
				answer.Pairs = append(answer.Pairs, api.Pair{Key: 10 * key, Val: val})
			}
		}
		s := New(two(), 1, 1, 0, 63)
		amid(t, s, laid(t, 5, of(16, 0, 0, cells...)))
		is(t, fmt.Sprint("P14.2: keys ", keys), s, answer)
	}
}

// TestEachKeyAndVal: of each key each value that there may be, whoever wrote it.
func TestEachKeyAndVal(t *testing.T) {
	for key := range api.MaxKey + 1 {
		for _, val := range []int{-1, 0, 1, 2, 9, 1000, api.MaxVal - 1, api.MaxVal} {
			for _, writer := range []int{0, 1, 999, 1000, 7999, 1 << 20} {
				a, s, answer := laid(t, 5, of(16, 0, 0, given(5, key, data(writer, val)))), New(two(), 1, 1, key, key), told(5)
				for !s.Step(a) {
				}
				if val >= 0 {
					answer = told(5, key, val)
				}
				is(t, fmt.Sprintf("P14.2: key %d, value %d of %d", key, val, writer), s, answer)
			}
		}
	}
}

// TestAnAnswerIsToldAtTheEndAlone: zero behind each step but the last one, and then for ever that one.
func TestAnAnswerIsToldAtTheEndAlone(t *testing.T) {
	a, s := laid(t, 5, of(16, 0, 54, given(1, 5, data(7, 8))), of(54, 20, 0, given(2, 25, data(6, 9)))), New(two(), 0, 2, 0, 63)
	for i := range 30 {
		want := api.Answer{}
		if i >= 22 {
			want = told(5, 5, 8, 25, 9)
			for at := range a.Len() {
				a.Poke(at, i)
			}
		}
		is(t, fmt.Sprintf("P14.2: behind %d steps", i), s, want)
		if over := s.Step(a); over != (i >= 21) {
			t.Errorf("P14.1: step %d: %v", i, over)
		}
	}
}

// TestTheErrorIsTold by one access that changes nothing, though others make room behind it.
func TestTheErrorIsTold(t *testing.T) {
	a, s := laid(t, 100, of(16, 0, 0, posted(5, data(7, 8)))), New(two(), 1, 2, 0, 63)
	was, n := words(a), a.Accesses()
	if !s.Step(a) || a.Accesses() != n+1 || !slices.Equal(words(a), was) {
		t.Errorf("P14.1: none left: %d accesses, the last one %+v", a.Accesses()-n, a.Last())
	}
	is(t, "P14.2: none left", s, noneLeft())
	a.Poke(clock, 0)
	behind(t, s, a)
	is(t, "P14.2: none left then", s, noneLeft())
}

// What others do meanwhile

// TestChangesBetweenSteps: what a line was told counts as it was then, and nothing else of it later.
func TestChangesBetweenSteps(t *testing.T) {
	at, asks := psa(1), claimed(2, 1)
	claim, end := claims(1, 2, 0, 40), leaves(1, 2, 40)
	walk := loads(5, 0, 11, 32, 16, 0, 18, 108, 54, 20)
	first, next := loads(17, 2, 23, 5, 24, 5, 25, data(7, 8), 26, 0), loads(18, 108, 54, 20)
	second := loads(55, 1, 61, 4, 62, 25, 63, data(3, 3), 56, 0)
	whole := then(claim, walk, first, next, second, end)
	both := told(40, 5, 8, 25, 3)
	for _, x := range []struct {
		what    string
		changes []change
		want    []api.Access
		answer  api.Answer
	}{
		{"none", nil, whole, both},
		{"the last version goes just ahead of 1", []change{{0, clock, 100}}, loads(clock, 100), noneLeft()},
		{"just behind it", []change{{1, clock, 100}}, then(loads(clock, 40), store(at, 0, asks), add(clock, 100), swap(at, asks, claimed(2, 102)), loads(at, claimed(2, 102)), walk, first, next, second, leaves(1, 2, 100)), told(100, 5, 8, 25, 3)},
		{"the clock goes on behind the claim", []change{{5, clock, 60}, {10, clock, 70}, {17, clock, 99}, {22, clock, 100}}, whole, both},
		{"another one gives the version", []change{{2, at, claimed(2, 2)}}, then(loads(clock, 40), store(at, 0, asks), add(clock, 40), vain(at, claimed(2, 2)), loads(at, claimed(2, 2)), walk, loads(17, 2, 23, 5, 24, 5, 26, 0), next, loads(55, 1, 61, 4, 62, 25, 56, 0), store(at, claimed(2, 2), claimed(2, 0))), told(0)},
		{"a greater one", []change{{3, at, claimed(2, 43)}}, then(loads(clock, 40), store(at, 0, asks), add(clock, 40), vain(at, claimed(2, 43)), loads(at, claimed(2, 43)), walk, first, next, second, store(at, claimed(2, 43), claimed(2, 0))), told(41, 5, 8, 25, 3)},
		{"one that none is up to", []change{{4, at, claimed(3, 1)}}, then(claim[:4], loads(at, claimed(3, 1)), walk, loads(17, 2, 23, 5, 24, 5, 26, 0), next, loads(55, 1, 61, 4, 62, 25, 56, 0), store(at, claimed(3, 1), claimed(2, 0))), told(-1)},
		{"the Psa is another one behind the claim", []change{{5, at, claimed(9, 9)}}, then(claim, walk, first, next, second, store(at, claimed(9, 9), claimed(2, 0))), both},
		{"just ahead of the last line", []change{{22, at, 0}}, then(claim, walk, first, next, second, store(at, 0, claimed(2, 0))), both},
		{"the first chunk is another one ahead of the walk", []change{{6, 11, 108}}, then(claim, loads(5, 0, 11, 108, 54, 20, 10, 0, 11, 108, 54, 20), second, end), told(40, 25, 3)},
		{"the walk stays in Head", []change{{7, 16, 1}, {8, 16, 0}, {9, 10, 0}}, then(claim, loads(5, 0, 11, 32, 16, 1, 10, 0, 11, 32, 16, 0), first, next, second, end), both},
		{"the chunk is replaced behind the walk", []change{{10, 11, 108}, {10, 22, 2}, {10, 16, 64}}, whole, both},
		{"a cell is posted just ahead of the count", []change{{10, 26, 1}, {10, 27, 6}, {10, 28, data(1, 1)}}, then(claim, walk, first[:4], loads(26, 1, 27, 6, clock, 41), swap(26, 1, 44), loads(26, 44), next, second, end), both},
		{"just ahead of its state", []change{{14, 26, 1}, {14, 27, 5}, {14, 28, data(1, 1)}}, then(claim, walk, first[:4], loads(26, 1, 27, 5, clock, 41), swap(26, 1, 44), loads(26, 44), next, second, end), both},
		{"just behind it", []change{{15, 26, 1}, {15, 27, 5}, {15, 28, data(1, 1)}}, whole, both},
		{"a cell is given the scan's version", []change{{14, 26, 43}, {14, 27, 6}, {14, 28, data(1, 1)}}, then(claim, walk, first[:4], loads(26, 43, 27, 6, 28, data(1, 1)), next, second, end), told(40, 5, 8, 6, 1, 25, 3)},
		{"one above it", []change{{14, 26, 44}, {14, 27, 6}, {14, 28, data(1, 1)}}, then(claim, walk, first[:4], loads(26, 44, 27, 6), next, second, end), both},
		{"of the key that is there", []change{{14, 26, 43}, {14, 27, 5}, {14, 28, data(1, -1)}}, then(claim, walk, first[:4], loads(26, 43, 27, 5, 28, data(1, -1)), next, second, end), told(40, 25, 3)},
		{"a posted one is given the scan's version ahead of its swap", []change{{11, 23, 1}, {14, 23, 43}}, then(claim, walk, loads(17, 2, 23, 1, 24, 5, clock, 41), vain(23, 43), loads(23, 43, 25, data(7, 8), 26, 0), next, second, end), both},
		{"behind its swap", []change{{11, 23, 1}, {15, 23, 43}}, then(claim, walk, loads(17, 2, 23, 1, 24, 5, clock, 41), swap(23, 1, 44), loads(23, 43, 25, data(7, 8), 26, 0), next, second, end), both},
		{"dead", []change{{11, 23, 1}, {14, 23, 2}}, then(claim, walk, loads(17, 2, 23, 1, 24, 5, clock, 41), vain(23, 2), loads(23, 2, 26, 0), next, second, end), told(40, 25, 3)},
		{"the data is another one ahead of its load", []change{{13, 25, data(7, 9)}}, then(claim, walk, loads(17, 2, 23, 5, 24, 5, 25, data(7, 9), 26, 0), next, second, end), told(40, 5, 9, 25, 3)},
		{"behind it", []change{{14, 25, data(7, 9)}}, whole, both},
		{"more cells are counted behind the count", []change{{11, 17, 4}}, whole, both},
		{"a chunk is linked in ahead of the next", []change{{15, 18, 70}}, then(claim, walk, first, loads(18, 70, 35, 40, 36, 1, 42, 4, 43, 45, 44, data(4, 4), 37, 108, 54, 20), second, end), told(40, 5, 8, 25, 3, 45, 4)},
		{"just behind it", []change{{16, 18, 70}}, whole, both},
		{"the chunk that is looked at is marked ahead of it", []change{{15, 18, 109}}, then(claim, walk, first, loads(18, 109, 54, 20), second, end), both},
		{"the chain ends there", []change{{15, 18, 1}}, then(claim, walk, first, loads(18, 1), end), told(40, 5, 8)},
		{"the next one's least key is above hi ahead of its load", []change{{16, 54, 64}}, then(claim, walk, first, loads(18, 108, 54, 64), end), told(40, 5, 8)},
		{"behind it", []change{{17, 54, 64}}, whole, both},
		{"a chunk comes behind the last one", []change{{21, 56, 70}, {21, 37, 0}}, then(claim, walk, first, next, second[:4], loads(56, 70, 35, 40, 36, 1, 42, 4, 43, 45, 44, data(4, 4), 37, 0), end), told(40, 5, 8, 25, 3, 45, 4)},
		{"too late", []change{{22, 56, 70}}, whole, both},
		{"behind the end", []change{{23, clock, 3}, {23, at, 7}, {23, 25, data(1, 1)}, {23, 63, data(1, 1)}}, whole, both},
		{"the other thread's Psa", []change{{2, psa(0), asks}, {3, psa(0), claimed(2, 9)}}, whole, both},
	} {
		a := laid(t, 40, of(16, 0, 54, given(2, 5, data(7, 8)), empty(6, 0)), of(54, 20, 0, given(1, 25, data(3, 3))), of(35, 40, 54, given(1, 45, data(4, 4))))
		s := New(two(), 1, 2, 0, 63)
		if got := amid(t, s, a, x.changes...); !slices.Equal(got, x.want) {
			t.Errorf("P14.1: %s: %v, not %v", x.what, got, x.want)
		}
		is(t, "P14.2: "+x.what, s, x.answer)
	}
}

// TestEachChange: of each word that a scan may come to, between any two steps, ahead of and behind them all.
func TestEachChange(t *testing.T) {
	build := func() *arena.Arena {
		return laid(t, 6, of(16, 0, 35, given(3, 5, data(9, 6)), posted(5, data(8, 8))), of(35, 20, 0, given(7, 25, data(7, 7)), given(2, 5, data(6, -1))))
	}
	x := asked{1, 2, 5, 30}
	steps := len(followsLines(t, two(), x, build()).done)
	values := []int{-1, 0, 1, 2, 3, 5, 7, 9, 20, 31, 32, 70, 71, 100, data(1, -1), claimed(2, 1), claimed(2, 9), claimed(3, 1)}
	for behind := range steps + 1 {
		for at := range 55 {
			for _, word := range values {
				followsLines(t, two(), x, build(), change{behind, at, word})
			}
		}
	}
}

// drawer: numbers by rule, from 0 on, below what is asked.
func drawer(seed int) func(below int) int {
	n := seed
	return func(below int) int {
		n = (n*1103515245 + 12345) % (1 << 31)
		return n >> 16 % below
	}
}

// spots that a drawn chunk may lie at.
const spots = 3

// drawnWord: what may lie at some word.
func drawnWord(draw func(int) int) int {
	switch draw(4) {
	case 0:
		return draw(12)
	case 1:
		return 2*(16+19*draw(spots)) + draw(2)
	case 2:
		return draw(64)
	}
	return data(draw(3), draw(4)-1)
}

// drawnChain: chunks whose least keys rise from 0 on, in drawn spots, with cells of whatever keys, and hints of some of them.
func drawnChain(t *testing.T, draw func(int) int, now int) *arena.Arena {
	t.Helper()
	var l []chunk
	spot, least := draw(spots), 0
	for range 1 + draw(spots) {
		spot = (spot + 1) % spots
		x := chunk{at: 16 + 19*spot, least: least, status: draw(4) / 2 * (1 + draw(2)), count: draw(6)}
		for range 4 {
			x.cells = append(x.cells, api.Cell{State: max(0, draw(13)-2), Key: least + draw(9) - draw(2), Data: data(draw(8000), draw(5)-1)})
		}
		l = append(l, x)
		least += 6 + draw(20)
	}
	for i := range l[1:] {
		l[i].next = 2*l[i+1].at + draw(2)
	}
	a := laid(t, now, l...)
	a.Poke(11, 2*l[0].at+draw(2))
	for i := range api.Hints {
		a.Poke(5+i, draw(3)/2*l[draw(len(l))].at)
	}
	return a
}

func drawnScan(draw func(int) int, thread int) asked {
	lo := draw(1 + draw(64))
	return asked{thread, 1 + draw(3), lo, lo + draw(64-lo)}
}

// TestDrawnChains: drawn words and changes of many of them.
func TestDrawnChains(t *testing.T) {
	draw, pairs, long, none := drawer(1), 0, 0, 0
	for range 6000 {
		a := drawnChain(t, draw, draw(11)+draw(20)/19*100)
		changes := make([]change, draw(2)*draw(9))
		for i := range changes {
			changes[i] = change{draw(40), 5 + draw(70), drawnWord(draw)}
			switch draw(5) {
			case 0:
				changes[i].at, changes[i].word = clock, draw(101)
			case 1:
				changes[i].at, changes[i].word = psa(draw(2)), claimed(1+draw(3), draw(12))
			}
		}
		b := a.Copy()
		x := drawnScan(draw, draw(2))
		m := followsLines(t, two(), x, a, changes...)
		answer := lines(two(), x, &memory{words: b, changes: changes})
		pairs += len(answer.Pairs)
		if len(m.done) > 30 {
			long++
		}
		if answer.Code == 15 {
			none++
		}
	}
	if pairs < 3000 || long < 500 || none < 20 {
		t.Errorf("drawn: %d pairs, %d are long, %d have no version", pairs, long, none)
	}
}

// running: a scan that is under way, what it does, and what others change ahead of its steps.
type running struct {
	*Scan
	asked
	done    []api.Access
	changes []change
	over    bool
}

func begun(c api.Conf, x asked) *running { return &running{Scan: x.scan(c), asked: x} }

// turn: its next step, if it hasn't ended; what it changes is the others' change.
func (r *running) turn(t *testing.T, a *arena.Arena, others []*running) {
	t.Helper()
	if r.over {
		behind(t, r.Scan, a)
		return
	}
	var x api.Access
	x, r.over = step(t, r.Scan, a)
	r.done = append(r.done, x)
	if x.New != x.Old {
		changed(x.At, x.New, r, others)
	}
}

// changed by whoever, who is told nothing: all others are.
func changed(at, word int, whoever *running, others []*running) {
	for _, other := range others {
		if other != whoever {
			other.changes = append(other.changes, change{len(other.done), at, word})
		}
	}
}

// TestScansAtTheSameTime: in one arena, however they go, each one does what it would alone, were the words changed by others as they are.
func TestScansAtTheSameTime(t *testing.T) {
	c, draw, pairs := api.Conf{Threads: 8, Cap: 10, Words: 110, Versions: 100}, drawer(3), 0
	for range 300 {
		a := made(t, c)
		a.Poke(clock, draw(9))
		for i := range 2 {
			at := 22 + 37*i
			a.Poke(at, 20*i)
			a.Poke(at+1, 10)
			a.Poke(at+2, (1-i)*2*(22+37))
			for j := range 10 {
				layCell(a, at+7+3*j, api.Cell{State: 1 + draw(12)/4*draw(12), Key: 20*i + draw(9), Data: data(draw(8000), draw(9)-1)})
			}
		}
		was := a.Copy()
		var l []*running
		for thread := range 4 {
			lo := draw(30)
			l = append(l, begun(c, asked{2 * thread, 1 + draw(3), lo, lo + draw(64-lo)}))
		}
		for slices.ContainsFunc(l, func(r *running) bool { return !r.over }) {
			l[draw(len(l))].turn(t, a, l)
		}
		for _, r := range l {
			m := &memory{words: was.Copy(), changes: r.changes}
			answer := lines(c, r.asked, m)
			if !slices.Equal(r.done, m.done) {
				t.Errorf("P14.1: %+v among others: %v, not %v", r.asked, r.done, m.done)
			}
			is(t, "P14.2: among others", r.Scan, answer)
			pairs += len(answer.Pairs)
		}
	}
	if pairs < 1000 {
		t.Errorf("%d pairs", pairs)
	}
}

// TestAnArenaIsNotKept: each step asks the one that it is handed.
func TestAnArenaIsNotKept(t *testing.T) {
	s := New(two(), 1, 3, 0, 63)
	whole := New(two(), 1, 3, 0, 63)
	b := three(t)
	want := amid(t, whole, b)
	a := three(t)
	for i, over := 0, false; !over; i++ {
		next := a.Copy()
		var x api.Access
		x, over = step(t, s, next)
		if x != want[i] {
			t.Fatalf("P14.1: step %d of many arenas: %v, not %v", i, x, want[i])
		}
		a = next.Copy()
		for at := range next.Len() {
			next.Poke(at, 1)
		}
	}
	is(t, "P14.2: of many arenas", s, whole.Answer())
}

// TestNobodyElseIsAsked: no word but those of its lines is loaded or changes anything.
func TestNobodyElseIsAsked(t *testing.T) {
	for _, x := range [][2]int{{0, 63}, {5, 5}, {20, 30}, {40, 63}} {
		s, loaded := New(two(), 1, 3, x[0], x[1]), map[int]bool{}
		want := amid(t, s, three(t))
		for _, y := range want {
			loaded[y.At] = true
		}
		a := three(t)
		for at := range a.Len() {
			if !loaded[at] {
				a.Poke(at, at+1)
			}
		}
		tells(t, "P14.1: other words", two(), a, asked{1, 3, x[0], x[1]}, s.Answer(), want)
	}
}

// P14.3: all at once, at one time of its own

// putting: a put in a chunk, as others do it: it takes a cell, fills it, posts it, and gives it the version that counts then.
type putting struct {
	chunk, key, data int
	line, cell, saw  int
	begin, end       int // turns
}

// next does one access of its; true behind the last one.
func (p *putting) next(a *arena.Arena) bool {
	state := p.chunk + 7 + 3*p.cell
	switch p.line {
	case 0:
		p.cell = a.Add(p.chunk+1, 1)
	case 1:
		a.Store(state+1, p.key)
	case 2:
		a.Store(state+2, p.data)
	case 3:
		a.Swap(state, 0, 1)
	case 4:
		p.saw = a.Load(clock)
	case 5:
		a.Swap(state, 1, 3+p.saw)
		return true
	}
	p.line++
	return false
}

func (p *putting) all(a *arena.Arena) {
	for !p.next(a) {
	}
}

func scanned(a *arena.Arena, x asked, c api.Conf) *Scan {
	s := x.scan(c)
	for !s.Step(a) {
	}
	return s
}

// twoChunks of keys from 0 and from 20 on, of sixteen cells that are all empty.
func twoChunks(t *testing.T) (api.Conf, *arena.Arena) {
	t.Helper()
	c := api.Conf{Threads: 8, Cap: 16, Words: 140, Versions: 100}
	a := made(t, c)
	a.Poke(24, 2*80)
	a.Poke(80, 20)
	return c, a
}

// TestPutsBetweenItsSteps: behind each of its steps two puts are done, the later chunk's first or last: both are told, if it hadn't counted the clock on, else none; the next scan tells both.
func TestPutsBetweenItsSteps(t *testing.T) {
	for steps := range 22 {
		for order := range 2 {
			c, a := twoChunks(t)
			for i := range 2 {
				(&putting{chunk: 22 + 58*i, key: 5 + 20*i, data: data(i, 1)}).all(a)
			}
			s, over := New(c, 7, 1, 0, 63), false
			for range steps {
				over = s.Step(a)
			}
			for i := range 2 {
				which := (i + order) % 2
				(&putting{chunk: 22 + 58*which, key: 5 + 20*which, data: data(i, 2)}).all(a)
			}
			for !over {
				over = s.Step(a)
			}
			want := told(0, 5, 1, 25, 1)
			if steps < 3 {
				want = told(0, 5, 2, 25, 2)
			}
			is(t, fmt.Sprintf("P14.3: puts behind %d steps", steps), s, want)
			is(t, "P14.3: the next one", scanned(a, asked{0, 1, 0, 63}, c), told(1, 5, 2, 25, 2))
		}
	}
}

// TestItBetweenAPutsSteps: behind each of a put's steps a scan is done: what it doesn't tell no later one tells at its version, what it tells the next one does; a put that has ended is told.
func TestItBetweenAPutsSteps(t *testing.T) {
	for steps := range 7 {
		c, a := twoChunks(t)
		p := &putting{chunk: 22, key: 5, data: data(1, 1)}
		over := false
		for range steps {
			over = p.next(a)
		}
		first := scanned(a, asked{0, 1, 0, 63}, c)
		want := told(0)
		if over {
			want = told(0, 5, 1)
		}
		is(t, fmt.Sprintf("P14.3: behind %d steps of a put", steps), first, want)
		if given := a.Peek(29); steps >= 4 && given != 4 && !over {
			t.Errorf("P14.3: what was posted is %d", given)
		}
		for !over {
			over = p.next(a)
		}
		is(t, "P14.3: behind the put", scanned(a, asked{3, 1, 0, 63}, c), told(1, 5, 1))
	}
}

// world: puts and scans of eight threads that are under way, one of each at a time.
type world struct {
	t     *testing.T
	draw  func(int) int
	conf  api.Conf
	a     *arena.Arena
	puts  []*putting
	scans []*timed
	turns int
}

// timed: a scan, its first and its last turn.
type timed struct {
	*Scan
	asked
	begin, end int
}

// newPut in a drawn chunk; none, if there are as many as the chunk has cells.
func (w *world) newPut() *putting {
	i, n := w.draw(2), 0
	for _, p := range w.puts {
		if p.chunk == 22+58*i {
			n++
		}
	}
	if n == 16 {
		return nil
	}
	p := &putting{chunk: 22 + 58*i, key: 20*i + w.draw(4), data: data(len(w.puts), w.draw(4)-1+10*len(w.puts)), begin: w.turns, end: math.MaxInt}
	if w.draw(4) == 0 {
		p.data = data(len(w.puts), -1)
	}
	w.puts = append(w.puts, p)
	return p
}

func (w *world) newScan(thread, seq int) *timed {
	x := asked{thread, seq, w.draw(30), 0}
	x.hi = x.lo + w.draw(64-x.lo)
	s := &timed{Scan: x.scan(w.conf), asked: x, begin: w.turns, end: math.MaxInt}
	w.scans = append(w.scans, s)
	return s
}

// run: threads 0 to 4 put, 5 to 7 scan, as drawn; some are left where they are.
func (w *world) run() {
	var puts [5]*putting
	var scans [3]*timed
	var seqs [3]int
	for w.turns < 1500 {
		w.turns++
		switch i := w.draw(8); {
		case i < 5 && puts[i] == nil:
			if w.draw(25) == 0 {
				puts[i] = w.newPut()
			}
		case i < 5:
			if puts[i].next(w.a) {
				puts[i].end, puts[i] = w.turns, nil
			}
		case scans[i-5] == nil:
			seqs[i-5]++
			scans[i-5] = w.newScan(i, seqs[i-5])
		case scans[i-5].Step(w.a):
			scans[i-5].end, scans[i-5] = w.turns, nil
		}
	}
}

// version of a put; -1, if it has none.
func (w *world) version(p *putting) int {
	if p.line < 4 {
		return -1
	}
	return max(w.a.Peek(p.chunk+7+3*p.cell)-3, -1)
}

// at: what the cells of that range held up to that version, by what they are at last.
func (w *world) at(version, lo, hi int) []api.Pair {
	var versions, vals [64]int
	for _, p := range w.puts {
		given := w.version(p)
		if given < 0 || given > version {
			continue
		}
		// Of one version the later cell counts.
		if rank := given*100 + p.cell + 1; rank > versions[p.key] {
			versions[p.key], vals[p.key] = rank, p.data%(1<<21)
		}
	}
	var l []api.Pair
	for key := lo; key <= hi; key++ {
		if vals[key] > 0 {
			l = append(l, api.Pair{Key: key, Val: vals[key] - 1})
		}
	}
	return l
}

// atOneTime: it told what the cells hold at its version; each put that had ended when it began has a version up to it, each one that began when it had ended one above it; and so have scans.
func (w *world) atOneTime(s *timed) {
	answer := s.Answer()
	if want := w.at(answer.Version, s.asked.lo, s.asked.hi); !slices.Equal(answer.Pairs, want) {
		w.t.Errorf("P14.3: %+v: %+v, not %v", s.asked, answer, want)
	}
	for _, p := range w.puts {
		given := w.version(p)
		if p.end < s.begin && given > answer.Version || p.begin > s.end && given >= 0 && given <= answer.Version {
			w.t.Errorf("P14.3: %+v of version %d from %d to %d; a put of version %d from %d to %d", s.asked, answer.Version, s.begin, s.end, given, p.begin, p.end)
		}
	}
	for _, other := range w.scans {
		if other.end < s.begin && other.Answer().Version >= answer.Version {
			w.t.Errorf("P14.3: version %d behind version %d", answer.Version, other.Answer().Version)
		}
	}
}

// TestAtOneTime: many puts and scans, as drawn.
func TestAtOneTime(t *testing.T) {
	draw, pairs, ends := drawer(4), 0, 0
	for range 500 {
		c, a := twoChunks(t)
		w := &world{t: t, draw: draw, conf: c, a: a}
		w.run()
		for _, s := range w.scans {
			if s.end == math.MaxInt {
				continue
			}
			ends++
			pairs += len(s.Answer().Pairs)
			w.atOneTime(s)
		}
	}
	if ends < 3000 || pairs < 3000 {
		t.Errorf("%d scans have ended, of %d pairs", ends, pairs)
	}
}

// TestReplacedMeanwhile: behind each of its steps its chunk is frozen, marked and replaced by two that hold what it held: it tells the same, from whichever.
func TestReplacedMeanwhile(t *testing.T) {
	x := asked{1, 1, 0, 63}
	for steps := range 40 {
		a := laid(t, 3, of(16, 0, 0, given(1, 5, data(1, 1)), given(3, 5, data(2, 2)), given(2, 25, data(3, 3)), given(3, 26, data(4, -1))))
		s, n := New(two(), x.thread, x.seq, x.lo, x.hi), 0
		over := false
		for ; n < steps && !over; n++ {
			over = s.Step(a)
		}
		a.Poke(22, 1)
		a.Poke(18, 1)
		lay(a, chunk{at: 35, next: 108, count: 2, cells: []api.Cell{given(1, 5, data(1, 1)), given(3, 5, data(2, 2)), {}, {}}})
		lay(a, chunk{at: 54, least: 20, count: 2, cells: []api.Cell{given(2, 25, data(3, 3)), given(3, 26, data(4, -1)), {}, {}}})
		a.Poke(11, 70)
		a.Poke(22, 2)
		(&putting{chunk: 35, key: 5, data: data(5, 5)}).all(a)
		(&putting{chunk: 54, key: 27, data: data(6, 6)}).all(a)
		for ; !over; n++ {
			over = s.Step(a)
		}
		want := told(3, 5, 2, 25, 3)
		if steps < 3 {
			want = told(3, 5, 5, 25, 3, 27, 6) // they were put ahead of its version
		}
		is(t, fmt.Sprintf("P14.3: replaced behind %d steps", steps), s, want)
	}
}

// TestAnotherOneIsLeft behind each of its steps, for ever: a scan ends in its own steps; and so does, later, the one that was left, and each tells what was there at its time.
func TestAnotherOneIsLeft(t *testing.T) {
	for steps := range 30 {
		a := laid(t, 6, of(16, 0, 54, given(1, 5, data(7, 8)), posted(5, data(6, 9))), of(54, 20, 0, posted(25, data(5, 5))))
		left, ended := New(two(), 0, 1, 0, 63), false
		for range steps {
			ended = left.Step(a)
		}
		s := New(two(), 1, 1, 0, 63)
		if n := len(amid(t, s, a)); n > 29 {
			t.Errorf("P14.3: behind %d steps of another one: %d steps", steps, n)
		}
		for !ended {
			ended = left.Step(a)
		}
		its, lefts := told(7, 5, 8), told(6, 5, 8)
		switch {
		case steps < 3: // the one that is left counts later
			its, lefts = told(6, 5, 8), told(7, 5, 9, 25, 5)
		case steps >= 26: // it has given both posted ones the version that counted
			its = told(7, 5, 9, 25, 5)
		case steps >= 18: // the first one
			its = told(7, 5, 9)
		}
		is(t, fmt.Sprintf("P14.3: behind %d steps of another one", steps), s, its)
		is(t, fmt.Sprintf("P14.3: left behind %d steps", steps), left, lefts)
	}
}

// Wrong inputs

// TestAnyInputs: of these nothing is promised but that no call panics, and that a step is one access at most.
func TestAnyInputs(t *testing.T) {
	bad := []api.Conf{{}, {Threads: -1, Cap: -1, Words: -1, Versions: -1}, {Threads: math.MaxInt, Cap: math.MaxInt, Versions: math.MaxInt}, {Threads: math.MinInt, Cap: math.MinInt, Versions: math.MinInt}, two()}
	for _, c := range bad {
		for _, n := range append(noNumbers(), 0, 63) {
			for _, other := range append(noNumbers(), 0, 63) {
				for _, word := range append(noNumbers(), 0, 1, 2, 3, 16, 32) {
					a := arena.New(20)
					for at := range a.Len() {
						a.Poke(at, word)
					}
					anySteps(t, New(c, n, other, 0, 63), a)
					anySteps(t, New(c, 0, 1, n, other), a)
				}
				anySteps(t, New(c, n, other, other, n), arena.New(-1))
			}
		}
	}
	anySteps(t, new(Scan), arena.New(20))
}

func anySteps(t *testing.T, s *Scan, a *arena.Arena) {
	t.Helper()
	for i := range 30 {
		n := a.Accesses()
		over := s.Step(a)
		if a.Accesses() > n+1 || !over && (a.Accesses() == n || !same(s.Answer(), api.Answer{})) {
			t.Errorf("P14.1: step %d: %d accesses, ended %v, %+v", i, a.Accesses()-n, over, s.Answer())
		}
		s.Answer()
	}
}
