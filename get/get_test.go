package get

import (
	"fmt"
	"math"
	"slices"
	"testing"

	"armillary/api"
	"armillary/arena"
	"armillary/place"
)

// two threads, chunks of four cells: the hints are at 5 to 8, Head is at 9, the first chunk at 16, its FCount at 17, its cells' states at 23, 26, 29, 32.
func two() api.Conf { return api.Conf{Threads: 2, Cap: 4, Words: 300, Versions: 100} }

// confs: each number of threads, each number of cells that may be.
func confs() []api.Conf {
	var l []api.Conf
	for threads := 1; threads <= api.MaxThreads; threads++ {
		for cells := threads + 2; cells <= api.MaxCap; cells++ {
			l = append(l, api.Conf{Threads: threads, Cap: cells, Words: 300, Versions: 1})
		}
	}
	return l
}

// hintOf, head: where the document lays them.
func hintOf(c api.Conf, key int) int { return 3 + c.Threads + key/16 }

func head(c api.Conf) int { return 3 + c.Threads + 4 }

// greatest version that a word holds.
const greatest = 1<<24 - 4

// noNumbers: of places, keys, counts and words, those that are none.
func noNumbers() []int {
	return []int{math.MinInt, math.MinInt + 1, -1 << 62, -1 << 40, -20000, -64, -17, -16, -7, -6, -2, -1, 64, 20000, 20001, 1 << 40, 1 << 62, math.MaxInt - 6, math.MaxInt - 1, math.MaxInt}
}

func made(t *testing.T, c api.Conf) *arena.Arena {
	t.Helper()
	a, err := place.Make(c)
	if err != nil {
		t.Fatalf("P3.2: Make of %+v: %v", c, err)
	}
	return a
}

// data of that writer and value; val -1: what is deleted.
func data(writer, val int) int { return writer<<21 + val + 1 }

// given, posted, dead: cells of that key.
func given(version, key, data int) api.Cell {
	return api.Cell{State: 3 + version, Key: key, Data: data}
}

func posted(key, data int) api.Cell { return api.Cell{State: 1, Key: key, Data: data} }

func dead(key, data int) api.Cell { return api.Cell{State: 2, Key: key, Data: data} }

func empty(key, data int) api.Cell { return api.Cell{State: 0, Key: key, Data: data} }

// chunk: what a get asks of one.
type chunk struct {
	at, least, next, status, count int
	cells                          []api.Cell
}

// of: a chunk that counts its cells; next is the place of the one behind.
func of(at, least, next int, cells ...api.Cell) chunk {
	return chunk{at: at, least: least, next: 2 * next, count: len(cells), cells: cells}
}

// laid: an arena with this clock and these chunks, and with some accesses behind it.
func laid(t *testing.T, clock int, l ...chunk) *arena.Arena {
	t.Helper()
	a := made(t, two())
	a.Store(0, 5)
	a.Swap(0, 5, 6)
	a.Poke(api.AClock, clock)
	for _, x := range l {
		lay(a, x)
	}
	return a
}

// lay: where no cell is told one stands that anybody would take for an item of the chunk's least key.
func lay(a *arena.Arena, x chunk) {
	for i := range 4 {
		cell := given(50, x.least, 3)
		if i < len(x.cells) {
			cell = x.cells[i]
		}
		a.Poke(x.at+7+3*i, cell.State)
		a.Poke(x.at+7+3*i+1, cell.Key)
		a.Poke(x.at+7+3*i+2, cell.Data)
	}
	for f, word := range []int{x.least, x.count, x.next, 3, 3, 3, x.status} {
		a.Poke(x.at+f, word)
	}
}

// three chunks, at 16, 100, 60, of the keys from 0, 20, 40 on.
func three(t *testing.T) *arena.Arena {
	t.Helper()
	return laid(t, 6,
		of(16, 0, 100, given(3, 5, data(9, 6)), dead(5, data(8, 8)), given(4, 5, data(7, 0)), given(1, 0, data(3, 2))),
		of(100, 20, 60, posted(25, data(1002, 7)), given(4, 26, data(5, api.MaxVal)), given(5, 27, data(6, -1)), posted(28, data(4, -1))),
		of(60, 40, 0, given(8, 63, data(0, 1)), empty(63, data(2, 2)), given(2, 63, data(2, 3))))
}

func hinted(a *arena.Arena, key, hint int) *arena.Arena {
	a.Poke(hintOf(two(), key), hint)
	return a
}

func load(at, word int) api.Access { return api.Access{Kind: api.KLoad, At: at, Old: word, New: word} }

// swap: one that is done; vain: one that found that word.
func swap(at, old, word int) []api.Access {
	return []api.Access{{Kind: api.KSwap, At: at, Old: old, New: word, Ok: true}}
}

func vain(at, word int) []api.Access {
	return []api.Access{{Kind: api.KSwap, At: at, Old: word, New: word}}
}

// loads: of these places these words.
func loads(placesAndWords ...int) []api.Access {
	var l []api.Access
	for i := 0; i < len(placesAndWords); i += 2 {
		l = append(l, load(placesAndWords[i], placesAndWords[i+1]))
	}
	return l
}

func then(parts ...[]api.Access) []api.Access { return slices.Concat(parts...) }

// found, gone, none: the answers that there are.
func found(writer, val int) api.Answer { return api.Answer{Found: true, Val: val, Writer: writer} }

func gone(writer int) api.Answer { return api.Answer{Writer: writer} }

func none() api.Answer { return api.Answer{Writer: -1} }

func same(x, y api.Answer) bool {
	return x.Code == y.Code && x.Found == y.Found && x.Val == y.Val && x.Writer == y.Writer && x.Version == y.Version && len(x.Pairs) == 0 && len(y.Pairs) == 0
}

func words(a *arena.Arena) []int {
	l := make([]int, a.Len())
	for at := range l {
		l[at] = a.Peek(at)
	}
	return l
}

// step: one that isn't behind the end: its access, and whether it has ended. It is one access, a load or a swap, and changes no word but the one that it swaps.
func step(t *testing.T, g *Get, a *arena.Arena) (api.Access, bool) {
	t.Helper()
	if x := g.Answer(); !same(x, api.Answer{}) {
		t.Errorf("P12.1: ahead of the end: %+v", x)
	}
	want, n := words(a), a.Accesses()
	over := g.Step(a)
	last := a.Last()
	if a.Accesses() != n+1 || last.Kind != api.KLoad && last.Kind != api.KSwap {
		t.Fatalf("P12.1: a step of %d accesses, the last one %+v", a.Accesses()-n, last)
	}
	if last.Ok {
		want[last.At] = last.New
	}
	if !slices.Equal(words(a), want) {
		t.Fatalf("P12.1: %+v changes another word", last)
	}
	return last, over
}

// behind its end: no access, nothing changed, true, whatever the words are by now.
func behind(t *testing.T, g *Get, a *arena.Arena) {
	t.Helper()
	answer, other := g.Answer(), a.Copy()
	for at := range other.Len() {
		other.Poke(at, 1)
	}
	for _, b := range []*arena.Arena{a, a, other, arena.New(1), a} {
		was, n, last := words(b), b.Accesses(), b.Last()
		if !g.Step(b) {
			t.Error("P12.1: behind its end Step tells false")
		}
		if b.Accesses() != n || b.Last() != last || !slices.Equal(words(b), was) {
			t.Errorf("P12.1: behind its end Step does something: %+v", b.Last())
		}
		if !same(g.Answer(), answer) {
			t.Errorf("P12.1: behind its end Answer is %+v, was %+v", g.Answer(), answer)
		}
	}
}

// mostSteps that a get is followed for, as a chain may come round.
const mostSteps = 130

// change: between this step (of so many that are behind it) and the next one, by others.
type change struct{ behind, at, word int }

func do(a *arena.Arena, changes []change, behind int) {
	for _, x := range changes {
		if x.behind == behind {
			a.Poke(x.at, x.word)
		}
	}
}

// amid: all that g does, while a is changed.
func amid(t *testing.T, g *Get, a *arena.Arena, changes ...change) []api.Access {
	t.Helper()
	var done []api.Access
	for range mostSteps {
		do(a, changes, len(done))
		x, over := step(t, g, a)
		done = append(done, x)
		if over {
			behind(t, g, a)
			break
		}
	}
	return done
}

// tells this answer, by these accesses; likewise when it is asked again, as it was.
func tells(t *testing.T, what string, c api.Conf, a *arena.Arena, key int, answer api.Answer, want []api.Access) {
	t.Helper()
	for range 2 {
		g := New(c, key)
		if got := amid(t, g, a.Copy()); !slices.Equal(got, want) || !same(g.Answer(), answer) {
			t.Errorf("%s: key %d: %v, %+v, not %v, %+v", what, key, got, g.Answer(), want, answer)
		}
	}
}

// memory: how lines asks for words.
type memory struct {
	load func(at int) int
	swap func(at, old, word int)
}

// lines: P12.1's, told once more, of words that aren't below 0 where places and cells are told.
func lines(c api.Conf, key int, m memory) api.Answer { return inChunk(c, toChunk(c, key, m), key, m) }

// toChunk: walk's.
func toChunk(c api.Conf, key int, m memory) int {
	cur := head(c)
	if x := m.load(hintOf(c, key)); x != 0 && m.load(x+6) == 0 && m.load(x) <= key {
		cur = x
	}
	for {
		n := m.load(cur+2) / 2
		if n == 0 || m.load(n) > key {
			return cur
		}
		cur = n
	}
}

// inChunk: look's.
func inChunk(c api.Conf, chunk, key int, m memory) api.Answer {
	answer, version := none(), -1
	n := m.load(chunk + 1)
	for i := 0; i < n && i < c.Cap; i++ {
		at := chunk + 7 + 3*i
		s := m.load(at)
		if s <= 0 || s == 2 || m.load(at+1) != key {
			continue
		}
		if s == 1 {
			m.swap(at, 1, 3+min(max(m.load(1), 0), greatest))
			s = m.load(at)
		}
		if s < 3 || s-3 > 1<<30 || s-3 < version {
			continue
		}
		d := m.load(at + 2)
		version, answer = s-3, gone(d>>21)
		if val := d % (1 << 21); val > 0 {
			answer = found(d>>21, val-1)
		}
	}
	return answer
}

// toldAmid: what lines does in a copy of a, changed likewise, and what it tells; nothing, if it goes on.
func toldAmid(c api.Conf, key int, a *arena.Arena, changes []change) ([]api.Access, api.Answer) {
	b, n := a.Copy(), 0
	var done []api.Access
	more := func() bool {
		n++
		if n <= mostSteps {
			do(b, changes, len(done))
		}
		return n <= mostSteps
	}
	answer := lines(c, key, memory{func(at int) int {
		if !more() {
			return 0
		}
		done = append(done, load(at, b.Peek(at)))
		return b.Peek(at)
	}, func(at, old, word int) {
		switch {
		case !more():
		case b.Peek(at) != old || at < 0 || at >= b.Len():
			done = append(done, vain(at, b.Peek(at))...)
		default:
			done = append(done, swap(at, old, word)...)
			b.Poke(at, word)
		}
	}})
	if n > mostSteps {
		answer = api.Answer{}
	}
	return done, answer
}

func followsLines(t *testing.T, c api.Conf, key int, a *arena.Arena, changes ...change) {
	t.Helper()
	want, answer := toldAmid(c, key, a, changes)
	g := New(c, key)
	if got := amid(t, g, a, changes...); !slices.Equal(got, want) || !same(g.Answer(), answer) {
		t.Errorf("P12.1: key %d amid %v: %v, %+v, not %v, %+v", key, changes, got, g.Answer(), want, answer)
	}
}

// P12.1: the lines

func TestANewArena(t *testing.T) {
	for _, c := range confs() {
		first := head(c) + 7
		for key := range api.MaxKey + 1 {
			want := loads(hintOf(c, key), 0, head(c)+2, 2*first, first, 0, first+2, 0, first+1, 0)
			tells(t, fmt.Sprintf("P12.1: %+v", c), c, made(t, c), key, none(), want)
		}
	}
}

// TestEachChunk: walk's lines to the key, then look's in that chunk.
func TestEachChunk(t *testing.T) {
	first := loads(5, 0, 11, 32, 16, 0, 18, 200, 100, 20)
	middle := loads(6, 0, 11, 32, 16, 0, 18, 200, 100, 20, 102, 120, 60, 40)
	last := loads(8, 0, 11, 32, 16, 0, 18, 200, 100, 20, 102, 120, 60, 40, 62, 0)
	for _, x := range []struct {
		what   string
		key    int
		hint   int
		want   []api.Access
		answer api.Answer
	}{
		{"in the first one, several, the last one is 0", 5, 0, then(first, loads(17, 4, 23, 6, 24, 5, 25, data(9, 6), 26, 2, 29, 7, 30, 5, 31, data(7, 0), 32, 4, 33, 0)), found(7, 0)},
		{"the least key of all", 0, 0, then(first, loads(17, 4, 23, 6, 24, 5, 26, 2, 29, 7, 30, 5, 32, 4, 33, 0, 34, data(3, 2))), found(3, 2)},
		{"none", 6, 0, then(first, loads(17, 4, 23, 6, 24, 5, 26, 2, 29, 7, 30, 5, 32, 4, 33, 0)), none()},
		{"none of the greatest key that may be in the first one", 19, 0, then(loads(6, 0), first[1:], loads(17, 4, 23, 6, 24, 5, 26, 2, 29, 7, 30, 5, 32, 4, 33, 0)), none()},
		{"in a middle one, posted", 25, 0, then(middle, loads(101, 4, 107, 1, 108, 25, 1, 6), swap(107, 1, 9), loads(107, 9, 109, data(1002, 7), 110, 7, 111, 26, 113, 8, 114, 27, 116, 1, 117, 28)), found(1002, 7)},
		{"posted ones of other keys", 26, 0, then(middle, loads(101, 4, 107, 1, 108, 25, 110, 7, 111, 26, 112, data(5, api.MaxVal), 113, 8, 114, 27, 116, 1, 117, 28)), found(5, api.MaxVal)},
		{"deleted", 27, 0, then(middle, loads(101, 4, 107, 1, 108, 25, 110, 7, 111, 26, 113, 8, 114, 27, 115, data(6, -1), 116, 1, 117, 28)), gone(6)},
		{"deleted, posted", 28, 0, then(middle, loads(101, 4, 107, 1, 108, 25, 110, 7, 111, 26, 113, 8, 114, 27, 116, 1, 117, 28, 1, 6), swap(116, 1, 9), loads(116, 9, 118, data(4, -1))), gone(4)},
		{"the middle one's least key", 20, 0, then(middle, loads(101, 4, 107, 1, 108, 25, 110, 7, 111, 26, 113, 8, 114, 27, 116, 1, 117, 28)), none()},
		{"in the last one, the greatest key of all, the first version is greater", 63, 0, then(last, loads(61, 3, 67, 11, 68, 63, 69, data(0, 1), 70, 0, 73, 5, 74, 63)), found(0, 1)},
		{"none in the last one", 62, 0, then(last, loads(61, 3, 67, 11, 68, 63, 70, 0, 73, 5, 74, 63)), none()},
		{"by a hint of its chunk", 27, 100, then(loads(6, 100, 106, 0, 100, 20, 102, 120, 60, 40), loads(101, 4, 107, 1, 108, 25, 110, 7, 111, 26, 113, 8, 114, 27, 115, data(6, -1), 116, 1, 117, 28)), gone(6)},
		{"by a hint ahead of its chunk", 63, 16, then(loads(8, 16, 22, 0, 16, 0), last[3:], loads(61, 3, 67, 11, 68, 63, 69, data(0, 1), 70, 0, 73, 5, 74, 63)), found(0, 1)},
		{"a hint behind its chunk isn't taken", 0, 60, then(loads(5, 60, 66, 0, 60, 40), first[1:], loads(17, 4, 23, 6, 24, 5, 26, 2, 29, 7, 30, 5, 32, 4, 33, 0, 34, data(3, 2))), found(3, 2)},
	} {
		tells(t, "P12.1: "+x.what, two(), hinted(three(t), x.key, x.hint), x.key, x.answer, x.want)
	}
}

// TestHints of any status: one that isn't 0 isn't taken; the answer is the same.
func TestHints(t *testing.T) {
	looked := loads(61, 3, 67, 11, 68, 63, 69, data(0, 1), 70, 0, 73, 5, 74, 63)
	fromHead := loads(11, 32, 16, 0, 18, 200, 100, 20, 102, 120, 60, 40, 62, 0)
	for _, status := range append(noNumbers(), 0, 1, 2, 3) {
		for _, hint := range []int{16, 100, 60} {
			a := hinted(three(t), 63, hint)
			a.Poke(hint+6, status)
			if status != 0 {
				tells(t, fmt.Sprint("P12.1: a hint of status ", status), two(), a, 63, found(0, 1), then(loads(8, hint, hint+6, status), fromHead, looked))
				continue
			}
			n := map[int]int{16: 2, 100: 4, 60: 6}[hint]
			least := map[int]int{16: 0, 100: 20, 60: 40}[hint]
			tells(t, "P12.1: a hint", two(), a, 63, found(0, 1), then(loads(8, hint, hint+6, 0, hint, least), fromHead[n:], looked))
		}
	}
}

// TestFrozenChunks are looked through likewise, marked or replaced.
func TestFrozenChunks(t *testing.T) {
	for _, status := range []int{0, 1, 2} {
		for mark := range 2 {
			a := three(t)
			a.Poke(62, mark)
			a.Poke(66, status)
			want := loads(8, 0, 11, 32, 16, 0, 18, 200, 100, 20, 102, 120, 60, 40, 62, mark, 61, 3, 67, 11, 68, 63, 69, data(0, 1), 70, 0, 73, 5, 74, 63)
			tells(t, "P12.1: frozen", two(), a, 63, found(0, 1), want)
		}
	}
}

// TestTheEndAtHead: in Head nothing is counted.
func TestTheEndAtHead(t *testing.T) {
	a := laid(t, 6, of(16, 6, 0, given(1, 5, data(7, 7))))
	tells(t, "P12.1: at Head", two(), a, 5, none(), loads(5, 0, 11, 32, 16, 6, 10, 0))
	a.Poke(11, 0)
	tells(t, "P12.1: no chunk", two(), a, 63, none(), loads(8, 0, 11, 0, 10, 0))
}

// TestItsKeyAlone: each key among cells of all others, given and posted; one that is posted of another key gets no version.
func TestItsKeyAlone(t *testing.T) {
	for key := range api.MaxKey + 1 {
		walk := loads(hintOf(two(), key), 0, 11, 32, 16, 0, 18, 0)
		for other := -1; other <= api.MaxKey+1; other++ {
			if other == key {
				continue
			}
			a := laid(t, 6, of(16, 0, 0, posted(other, data(1, 1)), given(2, key, data(2, 2)), given(9, other, data(3, 3)), posted(other, data(4, 4))))
			want := then(walk, loads(17, 4, 23, 1, 24, other, 26, 5, 27, key, 28, data(2, 2), 29, 12, 30, other, 32, 1, 33, other))
			tells(t, fmt.Sprint("P12.1: among ", other), two(), a, key, found(2, 2), want)
		}
	}
}

// TestCounts: as many cells are looked at as the count tells, none of one below 0, no more than a chunk has.
func TestCounts(t *testing.T) {
	for _, c := range confs() {
		for _, count := range append(noNumbers(), 0, 1, 2, 3, c.Cap-1, c.Cap, c.Cap+1, 100) {
			a, at, answer := made(t, c), 60, none()
			a.Poke(hintOf(c, 5), at)
			a.Poke(at+1, count)
			want := loads(hintOf(c, 5), at, at+6, 0, at, 0, at+2, 0, at+1, count)
			for i := range c.Cap + 1 {
				x := at + 7 + 3*i
				a.Poke(x, 4+i)
				a.Poke(x+1, 5)
				a.Poke(x+2, data(i, i))
				if i < count && i < c.Cap {
					answer = found(i, i)
					want = append(want, loads(x, 4+i, x+1, 5, x+2, data(i, i))...)
				}
			}
			tells(t, fmt.Sprintf("P12.1: %+v, count %d", c, count), c, a, 5, answer, want)
		}
	}
}

// TestStates: each one by itself; versions up to 1 << 30 are taken.
func TestStates(t *testing.T) {
	for _, s := range append(noNumbers(), 0, 2, 3, 4, 5, 103, greatest+2, greatest+3, greatest+4, 1<<30, 1<<30+2, 1<<30+3, 1<<30+4, 1<<31) {
		a, answer := laid(t, 6, of(16, 0, 0, api.Cell{State: s, Key: 5, Data: data(7, 8)})), none()
		want := loads(5, 0, 11, 32, 16, 0, 18, 0, 17, 1, 23, s)
		if s > 2 {
			want = append(want, load(24, 5))
		}
		if s > 2 && s <= 1<<30+3 {
			want, answer = append(want, load(25, data(7, 8))), found(7, 8)
		}
		tells(t, fmt.Sprint("P12.1: state ", s), two(), a, 5, answer, want)
	}
}

// TestClocks: a posted one of the key is told, whatever version it gets.
func TestClocks(t *testing.T) {
	for _, clock := range append(noNumbers(), 0, 1, 99, 100, 101, greatest-1, greatest, greatest+1, 1<<30) {
		s := 3 + min(max(clock, 0), greatest)
		a := laid(t, clock, of(16, 0, 0, posted(5, data(7, 8))))
		want := then(loads(5, 0, 11, 32, 16, 0, 18, 0, 17, 1, 23, 1, 24, 5, 1, clock), swap(23, 1, s), loads(23, s, 25, data(7, 8)))
		tells(t, fmt.Sprint("P12.1: clock ", clock), two(), a, 5, found(7, 8), want)
	}
}

// TestSeveralOfOneKey: of two, each version against each one, the second given or posted: the greater one is told, of two of one version the last one.
func TestSeveralOfOneKey(t *testing.T) {
	walk := loads(5, 0, 11, 32, 16, 0, 18, 0, 17, 2)
	for one := range 5 {
		for other := range 5 {
			answer, last := found(1, 1), []api.Access(nil)
			if other >= one {
				answer, last = gone(2), loads(28, data(2, -1))
			}
			what := fmt.Sprintf("P12.1: versions %d, %d", one, other)
			start := then(walk, loads(23, 3+one, 24, 5, 25, data(1, 1)))
			a := laid(t, other, of(16, 0, 0, given(one, 5, data(1, 1)), given(other, 5, data(2, -1))))
			tells(t, what, two(), a, 5, answer, then(start, loads(26, 3+other, 27, 5), last))
			a.Poke(26, 1)
			tells(t, what+", posted", two(), a, 5, answer, then(start, loads(26, 1, 27, 5, 1, other), swap(26, 1, 3+other), loads(26, 3+other), last))
		}
	}
}

// writersAndVals: the least and the most of each, and some.
func writersAndVals() [][2]int {
	var l [][2]int
	for _, writer := range []int{0, 1, 9, 999, 1000, 7999, 1 << 20} {
		for _, val := range []int{-1, 0, 1, 2, 9, 1000, api.MaxVal - 1, api.MaxVal} {
			l = append(l, [2]int{writer, val})
		}
	}
	return l
}

func answerOf(writer, val int) api.Answer {
	if val == -1 {
		return gone(writer)
	}
	return found(writer, val)
}

func TestWritersAndVals(t *testing.T) {
	for _, x := range writersAndVals() {
		d := data(x[0], x[1])
		for _, key := range []int{0, 5, api.MaxKey} {
			a := laid(t, 6, of(16, 0, 0, given(1, key, d)))
			want := loads(hintOf(two(), key), 0, 11, 32, 16, 0, 18, 0, 17, 1, 23, 4, 24, key, 25, d)
			tells(t, fmt.Sprint("P12.1: writer, value ", x), two(), a, key, answerOf(x[0], x[1]), want)
		}
	}
}

// TestAnAnswerIsToldAtTheEndAlone: zero behind each step but the last one, also when the item is there already.
func TestAnAnswerIsToldAtTheEndAlone(t *testing.T) {
	a, g := laid(t, 6, of(16, 0, 0, given(1, 5, data(7, 8)), given(2, 6, 0), dead(5, 0))), New(two(), 5)
	for i := range 14 {
		want := api.Answer{}
		if i >= 11 {
			want = found(7, 8)
		}
		if got := g.Answer(); !same(got, want) {
			t.Errorf("P12.1: behind %d steps: %+v, not %+v", i, got, want)
		}
		if over := g.Step(a); over != (i >= 10) {
			t.Errorf("P12.1: step %d: %v", i, over)
		}
	}
}

// TestChangesBetweenSteps: what a line loaded counts as it was then, and nothing else of it later.
func TestChangesBetweenSteps(t *testing.T) {
	walk := loads(5, 0, 11, 32, 16, 0, 18, 200, 100, 20)
	other := loads(26, 4, 27, 6)
	start := then(walk, loads(17, 2, 23, 1, 24, 5))
	whole := then(start, loads(1, 9), swap(23, 1, 12), loads(23, 12, 25, data(7, 8)), other)
	for _, x := range []struct {
		what    string
		changes []change
		want    []api.Access
		answer  api.Answer
	}{
		{"none", nil, whole, found(7, 8)},
		{"another chunk goes ahead of the walk's end", []change{{4, 100, 5}}, then(loads(5, 0, 11, 32, 16, 0, 18, 200, 100, 5, 102, 0, 101, 1, 107, 4, 108, 5, 109, data(3, 3))), found(3, 3)},
		{"just behind it", []change{{5, 100, 5}}, whole, found(7, 8)},
		{"the chunk is replaced behind the walk", []change{{5, 22, 2}, {5, 18, 1}, {5, 11, 200}, {5, 16, 6}}, whole, found(7, 8)},
		{"a hint is laid behind the walk", []change{{5, 5, 100}}, whole, found(7, 8)},
		{"the count falls just ahead of it", []change{{5, 17, 0}}, then(walk, loads(17, 0)), none()},
		{"just behind it", []change{{6, 17, 0}}, whole, found(7, 8)},
		{"the cell dies just ahead of its state's load", []change{{6, 23, 2}}, then(walk, loads(17, 2, 23, 2), other), none()},
		{"just behind it", []change{{7, 23, 2}}, then(start, loads(1, 9), vain(23, 2), loads(23, 2), other), none()},
		{"another one gives it a version", []change{{9, 23, 5}}, then(start, loads(1, 9), vain(23, 5), loads(23, 5, 25, data(7, 8)), other), found(7, 8)},
		{"its key changes just ahead of its load", []change{{7, 24, 4}}, then(walk, loads(17, 2, 23, 1, 24, 4), other), none()},
		{"the clock goes on ahead of its load", []change{{8, 1, 20}}, then(start, loads(1, 20), swap(23, 1, 23), loads(23, 23, 25, data(7, 8)), other), found(7, 8)},
		{"its data changes just ahead of its load", []change{{11, 25, data(4, -1)}}, then(start, loads(1, 9), swap(23, 1, 12), loads(23, 12, 25, data(4, -1)), other), gone(4)},
		{"just behind it", []change{{12, 25, data(4, -1)}}, whole, found(7, 8)},
		{"the other cell becomes the key's", []change{{13, 27, 5}, {9, 1, 1}, {9, 23, 4}}, then(start, loads(1, 9), vain(23, 4), loads(23, 4, 25, data(7, 8), 26, 4, 27, 5, 28, data(2, 2))), found(2, 2)},
	} {
		a := laid(t, 9, of(16, 0, 100, posted(5, data(7, 8)), given(1, 6, data(2, 2))), of(100, 20, 0, given(1, 5, data(3, 3))))
		g := New(two(), 5)
		if got := amid(t, g, a, x.changes...); !slices.Equal(got, x.want) || !same(g.Answer(), x.answer) {
			t.Errorf("P12.1: %s: %v, %+v, not %v, %+v", x.what, got, g.Answer(), x.want, x.answer)
		}
	}
}

// TestEachChange: of each word, between any two steps, ahead of and behind them all.
func TestEachChange(t *testing.T) {
	for _, hint := range []int{0, 16, 60} {
		for step := range 22 {
			for at := range 80 {
				for _, word := range []int{0, 1, 2, 5, 9, 32, 120, 121} {
					a := laid(t, 6, of(16, 0, 60, given(1, 6, data(9, 9)), posted(5, data(7, 8))), of(60, 4, 0, posted(5, data(6, -1)), given(4, 6, data(1, 1)), given(7, 5, data(3, 0))))
					followsLines(t, two(), 5, hinted(a, 5, hint), change{step, at, word})
				}
			}
		}
	}
}

// drawer: numbers by rule, from 0 on, below what is asked.
func drawer(seed int) func(below int) int {
	n := seed
	return func(below int) int {
		n = (n*1103515245 + 12345) % (1 << 31)
		return n >> 8 % below
	}
}

// drawnWord: a state, a key, a version, all little; a place, a next, a data.
func drawnWord(draw func(int) int) int {
	at := 16 + 7*draw(12)
	switch draw(9) {
	case 0:
		return at
	case 1, 2:
		return 2*at + draw(2)
	case 3:
		return data(draw(9), draw(5)-1)
	}
	return draw(4) * draw(4)
}

// TestDrawnWords: words that are no chain's, and changes of many of them.
func TestDrawnWords(t *testing.T) {
	c := api.Conf{Threads: 2, Cap: 6, Words: 110, Versions: 1}
	draw, long, answers := drawer(1), 0, map[bool]int{}
	for range 6000 {
		a := made(t, c)
		for at := range a.Len() {
			a.Poke(at, drawnWord(draw))
		}
		changes := make([]change, draw(30))
		for i := range changes {
			changes[i] = change{draw(30), draw(a.Len()), drawnWord(draw)}
		}
		for range draw(9) {
			at := 16 + 7*draw(12)
			a.Poke(at, draw(9))
			a.Poke(at+1, draw(8))
			a.Poke(at+2, 2*(16+7*draw(12)))
		}
		key := draw(12)
		l, answer := toldAmid(c, key, a, changes)
		if len(l) > 15 {
			long++
		}
		answers[answer.Found]++
		followsLines(t, c, key, a, changes...)
	}
	if long < 1000 || answers[true] < 300 || answers[false] < 300 {
		t.Errorf("%d gets are long, %v", long, answers)
	}
}

// spots that a drawn chunk may lie at.
const spots = 14

// drawnChain: chunks whose least keys rise from 0 on, in drawn spots, with cells of keys of theirs, hints of some of them.
func drawnChain(t *testing.T, draw func(int) int, clock int) (*arena.Arena, []chunk) {
	t.Helper()
	var l []chunk
	spot := draw(spots)
	for least := 0; least <= api.MaxKey; least += 6 + draw(20) {
		spot = (spot + 5) % spots
		x := chunk{at: 16 + 19*spot, least: least, status: draw(4) / 2 * (1 + draw(2)), count: draw(6)}
		for range 4 {
			x.cells = append(x.cells, api.Cell{State: max(0, draw(13)-2), Key: least + draw(4), Data: data(draw(8000), draw(5)-1)})
		}
		l = append(l, x)
	}
	for i := range l[1:] {
		l[i].next = 2*l[i+1].at + draw(2)
	}
	a := laid(t, clock, l...)
	a.Poke(11, 2*l[0].at+draw(2))
	for i := range api.Hints {
		a.Poke(5+i, draw(3)/2*l[draw(len(l))].at)
	}
	return a, l
}

// held: what the chain holds of the key: of its chunk's cells the greatest version, the last of several.
func held(l []chunk, clock, key int) api.Answer {
	var its chunk
	for _, x := range l {
		if x.least <= key {
			its = x
		}
	}
	answer, greatest := none(), 0
	for _, x := range its.cells[:min(its.count, 4)] {
		if x.State == 1 {
			x.State = 3 + clock
		}
		if x.Key == key && x.State >= 3 && x.State >= greatest {
			answer, greatest = answerOf(x.Data>>21, x.Data%(1<<21)-1), x.State
		}
	}
	return answer
}

// TestDrawnChains: each key's value, from whichever hint; behind the get what was posted of the key has its version, no other word is another one.
func TestDrawnChains(t *testing.T) {
	draw, founds := drawer(2), 0
	for range 300 {
		clock := draw(9)
		a, l := drawnChain(t, draw, clock)
		for key := range api.MaxKey + 1 {
			b, g := a.Copy(), New(two(), key)
			if amid(t, g, b); !same(g.Answer(), held(l, clock, key)) {
				t.Errorf("P12.1: %+v, clock %d, key %d: %+v, not %+v", l, clock, key, g.Answer(), held(l, clock, key))
			}
			if g.Answer().Found {
				founds++
			}
			for at, word := range words(b) {
				if was := a.Peek(at); was != word && (was != 1 || word != 3+clock || b.Peek(at+1) != key) {
					t.Errorf("P12.1: key %d: the word at %d, %d, is %d", key, at, was, word)
				}
			}
		}
	}
	if founds < 1000 {
		t.Errorf("%d are found", founds)
	}
}

// turn: whose it is, and what is changed ahead of it.
type turn struct {
	pick    int
	changes []change
}

func drawnTurns(draw func(int) int, gets int, l []chunk) []turn {
	turns := make([]turn, 110)
	for i := range turns {
		turns[i].pick = draw(gets)
		if draw(6) == 0 {
			turns[i].changes = append(turns[i].changes, change{0, l[draw(len(l))].at + draw(19), drawnWord(draw)})
		}
		if draw(6) == 0 {
			turns[i].changes = append(turns[i].changes, change{0, 1, draw(9)})
		}
	}
	return turns
}

// together: what each get does and tells, and by turn the word that was swapped.
func together(t *testing.T, keys []int, turns []turn, a *arena.Arena) ([][]api.Access, []*Get, map[int]change) {
	t.Helper()
	done, gets, ended, swapped := make([][]api.Access, len(keys)), make([]*Get, len(keys)), make([]bool, len(keys)), map[int]change{}
	for i, key := range keys {
		gets[i] = New(two(), key)
	}
	for i, x := range turns {
		do(a, x.changes, 0)
		if ended[x.pick] {
			behind(t, gets[x.pick], a)
			continue
		}
		y, over := step(t, gets[x.pick], a)
		done[x.pick], ended[x.pick] = append(done[x.pick], y), over
		if y.Ok {
			swapped[i] = change{0, y.At, y.New}
		}
	}
	return done, gets, swapped
}

// alone: likewise of get i by itself, while the words are changed as the others had changed them.
func alone(t *testing.T, i, key int, turns []turn, a *arena.Arena, swapped map[int]change) ([]api.Access, *Get) {
	t.Helper()
	g, over := New(two(), key), false
	var done []api.Access
	for n, turn := range turns {
		do(a, turn.changes, 0)
		if x, ok := swapped[n]; ok && turn.pick != i {
			do(a, []change{x}, 0)
		}
		if turn.pick == i && !over {
			var y api.Access
			y, over = step(t, g, a)
			done = append(done, y)
		}
	}
	return done, g
}

// TestGetsAtTheSameTime: in one arena, however they go, each one does what it would alone.
func TestGetsAtTheSameTime(t *testing.T) {
	draw, ends := drawer(3), 0
	for range 600 {
		a, l := drawnChain(t, draw, draw(9))
		keys := []int{draw(64), draw(9), draw(5), draw(5)}
		turns := drawnTurns(draw, len(keys), l)
		done, gets, swapped := together(t, keys, turns, a.Copy())
		for i, key := range keys {
			its, g := alone(t, i, key, turns, a.Copy(), swapped)
			if !slices.Equal(its, done[i]) || !same(g.Answer(), gets[i].Answer()) {
				t.Errorf("P12.1: key %d with others: %v, %+v, alone %v, %+v", key, done[i], gets[i].Answer(), its, g.Answer())
			}
			if g.Answer().Writer > 0 {
				ends++
			}
		}
	}
	if ends < 100 {
		t.Errorf("%d gets tell a writer", ends)
	}
}

// TestEachOrderOfTwoGets: at one posted cell of their key, from where the walks have ended, in each order: both tell it, and it has one version.
func TestEachOrderOfTwoGets(t *testing.T) {
	for bits := range 1 << 14 {
		a := laid(t, 0, of(16, 0, 0, posted(5, data(7, 8))))
		gets, ended, given := [2]*Get{New(two(), 5), New(two(), 5)}, [2]bool{}, 0
		for range 4 {
			gets[0].Step(a)
			gets[1].Step(a)
		}
		for i := range 14 {
			a.Poke(1, i) // the clock goes on
			p := bits >> i & 1
			if ended[p] {
				p = 1 - p
			}
			ended[p] = gets[p].Step(a)
			if a.Last().Ok {
				given++
			}
		}
		for i, g := range gets {
			if !ended[i] || given != 1 || !same(g.Answer(), found(7, 8)) {
				t.Errorf("P12.1: order %b: ended %v, %d versions, %+v", bits, ended[i], given, g.Answer())
			}
		}
	}
}

// TestAnArenaIsNotKept: each step asks the one that it is handed.
func TestAnArenaIsNotKept(t *testing.T) {
	g := New(two(), 25)
	var got []api.Access
	for over := false; !over; {
		a := three(t)
		a.Poke(1, len(got))
		if len(got) == 12 {
			a.Poke(107, 3+40)
		}
		var x api.Access
		x, over = step(t, g, a)
		got = append(got, x)
		for at := range a.Len() {
			a.Poke(at, 1)
		}
	}
	want := then(loads(6, 0, 11, 32, 16, 0, 18, 200, 100, 20, 102, 120, 60, 40, 101, 4, 107, 1, 108, 25, 1, 10), swap(107, 1, 13),
		loads(107, 43, 109, data(1002, 7), 110, 7, 111, 26, 113, 8, 114, 27, 116, 1, 117, 28))
	if !slices.Equal(got, want) || !same(g.Answer(), found(1002, 7)) {
		t.Errorf("P12.1: of many arenas: %v, %+v, not %v", got, g.Answer(), want)
	}
}

// P12.1: Of

func TestOf(t *testing.T) {
	l := []api.Item{{Key: 0, Version: 4, Data: data(3, 0)}, {Key: 5, Version: 1 << 30, Data: data(9, 7)}, {Key: 6, Data: data(0, -1)}, {Key: 63, Version: 9, Data: data(1000, api.MaxVal)}}
	want := map[int]api.Answer{0: found(3, 0), 5: found(9, 7), 6: gone(0), 63: found(1000, api.MaxVal)}
	for _, key := range append(noNumbers(), 0, 1, 3, 4, 5, 6, 7, 9, 62, 63, 1000) {
		answer, ok := want[key]
		if !ok {
			answer = none()
		}
		for n, rotated := 0, slices.Clone(l); n < len(l); n++ {
			rotated = append(rotated[1:], rotated[0])
			for range 2 {
				if got := Of(rotated, key); !same(got, answer) {
					t.Errorf("P12.1: Of %v, %d: %+v, not %+v", rotated, key, got, answer)
				}
			}
		}
	}
}

func TestOfNone(t *testing.T) {
	for _, key := range append(noNumbers(), 0, 5, 63) {
		for _, l := range [][]api.Item{nil, {}, make([]api.Item, 0, 4)} {
			if got := Of(l, key); !same(got, none()) {
				t.Errorf("P12.1: Of none, %d: %+v", key, got)
			}
		}
	}
	if got := Of([]api.Item{{}}, 0); !same(got, gone(0)) {
		t.Errorf("P12.1: Of a zero item: %+v", got)
	}
}

// TestOfEachKey: lists of one item, each key against each one.
func TestOfEachKey(t *testing.T) {
	for its := range api.MaxKey + 1 {
		for key := range api.MaxKey + 1 {
			want := none()
			if its == key {
				want = found(its, key)
			}
			if got := Of([]api.Item{{Key: its, Version: 2, Data: data(its, its)}}, key); !same(got, want) {
				t.Errorf("P12.1: Of an item of %d, %d: %+v, not %+v", its, key, got, want)
			}
		}
	}
	for _, key := range noNumbers() {
		if got := Of([]api.Item{{Key: key, Data: data(1, 2)}}, key); !same(got, found(1, 2)) {
			t.Errorf("P12.1: Of an item of %d: %+v", key, got)
		}
	}
}

func TestOfEachWriterAndVal(t *testing.T) {
	for _, x := range writersAndVals() {
		for _, version := range []int{-1, 0, 1, 1 << 30, math.MaxInt} {
			if got := Of([]api.Item{{Key: 5, Version: version, Data: data(x[0], x[1])}}, 5); !same(got, answerOf(x[0], x[1])) {
				t.Errorf("P12.1: Of %v: %+v", x, got)
			}
		}
	}
}

// TestOfSeveral of one key, which no look tells: the last one.
func TestOfSeveral(t *testing.T) {
	for i := range 9 {
		l := []api.Item{{Key: 5, Version: i % 3, Data: data(1, 1)}, {Key: 4, Version: 9, Data: data(2, 2)}, {Key: 5, Version: i / 3, Data: data(3, -1)}, {Key: 6, Version: 9, Data: data(4, 4)}}
		if got := Of(l, 5); !same(got, gone(3)) {
			t.Errorf("P12.1: Of %v: %+v", l, got)
		}
	}
}

// TestOfChangesNothing of what it is handed, its spare room too.
func TestOfChangesNothing(t *testing.T) {
	room := []api.Item{{Key: 9, Version: 1, Data: data(1, 1)}, {Key: 5, Version: 2, Data: data(2, 2)}, {Key: 0, Version: 3, Data: data(3, 3)}, {Key: 7, Version: 4, Data: data(4, 4)}}
	was := slices.Clone(room)
	for _, key := range []int{9, 5, 0, 7, 1} {
		l := room[:3]
		if got := Of(l, key); key == 7 && !same(got, none()) {
			t.Errorf("P12.1: of the spare room: %+v", got)
		}
		if !slices.Equal(room, was) {
			t.Fatalf("P12.1: Of changes %v to %v", was, room)
		}
	}
}

// P12.2: it waits for nobody

// TestAnotherOneIsLeft behind each of its steps, for ever: a get ends in its own steps, and tells the same; and so does, later, the one that was left.
func TestAnotherOneIsLeft(t *testing.T) {
	for steps := range 16 {
		a := laid(t, 6, of(16, 0, 0, posted(5, data(7, 8)), posted(5, data(6, 9))))
		left, ended := New(two(), 5), false
		for range steps {
			ended = left.Step(a)
		}
		g := New(two(), 5)
		if l := amid(t, g, a); len(l) > 4+1+6*2 || !same(g.Answer(), found(6, 9)) {
			t.Errorf("P12.2: behind %d steps of another one: %d steps, %+v", steps, len(l), g.Answer())
		}
		for !ended {
			ended = left.Step(a)
		}
		if !same(left.Answer(), found(6, 9)) {
			t.Errorf("P12.2: left behind %d steps: %+v", steps, left.Answer())
		}
	}
}

// TestAllIsUnderWay: each chunk frozen, its leader and mate anybody, all cells posted, all scans under way: no step more than one alone has.
func TestAllIsUnderWay(t *testing.T) {
	for _, word := range append(noNumbers(), 1, 2, 3) {
		a := laid(t, 6, of(16, 0, 0, posted(5, data(7, 8)), posted(6, data(1, 1)), posted(5, data(6, 9)), posted(5, data(4, -1))))
		for _, at := range []int{0, 2, 3, 4, 12, 13, 14, 15, 19, 20, 21, 22} {
			a.Poke(at, word)
		}
		want := loads(5, 0, 11, 32, 16, 0, 18, 0, 17, 4)
		for i := range 4 {
			at, cell := 23+3*i, loads(23+3*i, 1, 24+3*i, 5, 1, 6)
			if i == 1 {
				want = then(want, loads(26, 1, 27, 6))
				continue
			}
			want = then(want, cell, swap(at, 1, 9), loads(at, 9, at+2, a.Peek(at+2)))
		}
		tells(t, fmt.Sprint("P12.2: all is under way: ", word), two(), a, 5, gone(4), want)
	}
}

// TestOthersGoOn ahead of each step: cells are posted again, die, get other versions, the clock goes on; it ends all the same.
func TestOthersGoOn(t *testing.T) {
	for _, c := range confs() {
		for _, state := range []int{0, 1, 2, 3, 9, 100} {
			a, first, n := made(t, c), head(c)+7, 0
			for g, over := New(c, 5), false; !over; n++ {
				for i := range c.Cap {
					a.Poke(first+7+3*i, (n+i)%2*(state-1)+1)
					a.Poke(first+8+3*i, 5)
					a.Poke(first+9+3*i, data(n, i))
				}
				a.Poke(1, n)
				a.Poke(first+1, c.Cap+n)
				a.Poke(first+6, n%3)
				if n > 4+1+6*c.Cap {
					t.Fatalf("P12.2: %+v: %d steps", c, n)
				}
				_, over = step(t, g, a)
			}
		}
	}
}

// TestNobodyElseIsAsked: no word but those of its lines is loaded or changes anything.
func TestNobodyElseIsAsked(t *testing.T) {
	for _, key := range []int{0, 5, 25, 27, 28, 63} {
		alone := three(t)
		g, asked := New(two(), key), map[int]bool{}
		want := amid(t, g, alone)
		for _, x := range want {
			asked[x.At] = true
		}
		a := three(t)
		for at := range a.Len() {
			if !asked[at] {
				a.Poke(at, at+1)
			}
		}
		tells(t, "P12.2: other words", two(), a, key, g.Answer(), want)
	}
}

// Wrong inputs

// TestAnyInputs: of these nothing is promised but that no call panics, and that a step is one access at most.
func TestAnyInputs(t *testing.T) {
	bad := []api.Conf{{}, {Threads: -1, Cap: -1, Words: -1, Versions: -1}, {Threads: math.MaxInt, Cap: math.MaxInt}, {Threads: math.MinInt, Cap: math.MinInt}, two()}
	for _, c := range bad {
		for _, key := range append(noNumbers(), 0, 63) {
			for _, word := range append(noNumbers(), 0, 1, 2, 3, 16, 32) {
				a := arena.New(20)
				for at := range a.Len() {
					a.Poke(at, word)
				}
				anySteps(t, New(c, key), a)
				anySteps(t, New(c, key), arena.New(-1))
			}
		}
	}
	anySteps(t, new(Get), arena.New(20))
	for _, d := range noNumbers() {
		for _, key := range noNumbers() {
			Of([]api.Item{{Key: key, Version: d, Data: d}}, key)
		}
	}
}

func anySteps(t *testing.T, g *Get, a *arena.Arena) {
	t.Helper()
	for range 30 {
		n := a.Accesses()
		over := g.Step(a)
		if a.Accesses() > n+1 || !over && (a.Accesses() == n || !same(g.Answer(), api.Answer{})) {
			t.Errorf("P12.1: a step of %d accesses, ended %v, %+v", a.Accesses()-n, over, g.Answer())
		}
	}
}
