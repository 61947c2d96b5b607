package walk

import (
	"fmt"
	"math"
	"slices"
	"testing"

	"armillary/api"
	"armillary/arena"
	"armillary/place"
)

// two threads, chunks of four cells: the hints are at 5 to 8, Head is at 9, its FNext at 11, the first chunk at 16.
func two() api.Conf { return api.Conf{Threads: 2, Cap: 4, Words: 300, Versions: 100} }

// confs: each number of threads, each number of cells that may be.
func confs() []api.Conf {
	var l []api.Conf
	for threads := 1; threads <= api.MaxThreads; threads++ {
		for cells := threads + 2; cells <= api.MaxCap; cells++ {
			l = append(l, api.Conf{Threads: threads, Cap: cells, Words: 300, Versions: 1})
		}
	}
	return l
}

// hintOf, head, first: where the document lays them.
func hintOf(c api.Conf, key int) int { return 3 + c.Threads + key/16 }

func head(c api.Conf) int { return 3 + c.Threads + 4 }

func first(c api.Conf) int { return head(c) + 7 }

// to and marked: words that tell a place.
func to(at int) int { return 2 * at }

func marked(at int) int { return 2*at + 1 }

// noNumbers: of places, keys and words, those that are none.
func noNumbers() []int {
	return []int{math.MinInt, math.MinInt + 1, -1 << 62, -1 << 40, -20000, -64, -17, -16, -7, -6, -2, -1, 64, 20000, 20001, 1 << 40, 1 << 62, math.MaxInt - 6, math.MaxInt - 1, math.MaxInt}
}

func made(t *testing.T, c api.Conf) *arena.Arena {
	t.Helper()
	a, err := place.Make(c)
	if err != nil {
		t.Fatalf("P3.2: Make of %+v: %v", c, err)
	}
	return a
}

// chunk: what a walk asks of one; status 0, if it isn't told.
type chunk struct{ at, least, next, status int }

// laid: an arena with these chunks, and with some accesses behind it. What a walk doesn't ask for is junk.
func laid(t *testing.T, l ...chunk) *arena.Arena {
	t.Helper()
	a := made(t, two())
	a.Store(0, 5)
	a.Swap(0, 5, 6)
	for _, x := range l {
		lay(a, x)
	}
	return a
}

func lay(a *arena.Arena, x chunk) {
	for f := range 7 + 3*4 {
		a.Poke(x.at+f, 3)
	}
	a.Poke(x.at+api.FMin, x.least)
	a.Poke(x.at+api.FNext, x.next)
	a.Poke(x.at+api.FStatus, x.status)
}

// three chunks, at 16, 100, 60, of the keys from 0, 20, 40 on.
func three(t *testing.T) *arena.Arena {
	t.Helper()
	return laid(t, chunk{16, 0, to(100), 0}, chunk{100, 20, to(60), 0}, chunk{60, 40, 0, 0})
}

func hinted(a *arena.Arena, key, hint int) *arena.Arena {
	a.Poke(hintOf(two(), key), hint)
	return a
}

// load: of which place, which word.
type load struct{ at, word int }

func loads(placesAndWords ...int) []load {
	var l []load
	for i := 0; i < len(placesAndWords); i += 2 {
		l = append(l, load{placesAndWords[i], placesAndWords[i+1]})
	}
	return l
}

func words(a *arena.Arena) []int {
	l := make([]int, a.Len())
	for at := range l {
		l[at] = a.Peek(at)
	}
	return l
}

// step: one that isn't behind the end: what it loaded, and whether it has ended. It is one access, a load, and changes no word.
func step(t *testing.T, w *Walk, a *arena.Arena) (load, bool) {
	t.Helper()
	if w.Chunk() != 0 {
		t.Errorf("P10.1: Chunk ahead of the end: %d", w.Chunk())
	}
	was, n := words(a), a.Accesses()
	over := w.Step(a)
	last := a.Last()
	if want := (api.Access{Kind: api.KLoad, At: last.At, Old: last.Old, New: last.Old}); a.Accesses() != n+1 || last != want {
		t.Fatalf("P10.1: a step of %d accesses, the last one %+v", a.Accesses()-n, last)
	}
	if !slices.Equal(words(a), was) {
		t.Fatalf("P10.1: the load of %d changes a word", last.At)
	}
	return load{last.At, last.Old}, over
}

// behind its end: no access, nothing changed, true, whatever the words are by now.
func behind(t *testing.T, w *Walk, a *arena.Arena) {
	t.Helper()
	chunk, other := w.Chunk(), a.Copy()
	for at := range other.Len() {
		other.Poke(at, 2*at+1)
	}
	for _, b := range []*arena.Arena{a, a, other, arena.New(1), a} {
		was, n, last := words(b), b.Accesses(), b.Last()
		if !w.Step(b) {
			t.Error("P10.1: behind its end Step tells false")
		}
		if b.Accesses() != n || b.Last() != last || !slices.Equal(words(b), was) {
			t.Errorf("P10.1: behind its end Step does something: %+v", b.Last())
		}
		if w.Chunk() != chunk {
			t.Errorf("P10.1: behind its end Chunk is %d, was %d", w.Chunk(), chunk)
		}
	}
}

// walked: w to its end: all that it loads.
func walked(t *testing.T, w *Walk, a *arena.Arena) []load {
	t.Helper()
	var l []load
	for range 5000 {
		x, over := step(t, w, a)
		l = append(l, x)
		if over {
			behind(t, w, a)
			return l
		}
	}
	t.Fatal("P10.1: it doesn't end")
	return nil
}

// walks to that chunk by these loads; likewise when it is walked again.
func walks(t *testing.T, what string, c api.Conf, a *arena.Arena, key, chunk int, want []load) {
	t.Helper()
	for range 2 {
		w := New(c, key)
		if got := walked(t, w, a); !slices.Equal(got, want) || w.Chunk() != chunk {
			t.Errorf("%s: walk to %d: %v, at %d, not %v, at %d", what, key, got, w.Chunk(), want, chunk)
		}
	}
}

// lines: P10.1's, told once more, of words that aren't below 0.
func lines(c api.Conf, key int, load func(at int) int) int {
	cur := head(c)
	if x := load(hintOf(c, key)); x != 0 && load(x+6) == 0 && load(x) <= key {
		cur = x
	}
	for {
		n := load(cur+2) / 2
		if n == 0 || load(n) > key {
			return cur
		}
		cur = n
	}
}

// P10.1: the lines

func TestANewArena(t *testing.T) {
	for _, c := range confs() {
		a := made(t, c)
		for key := range api.MaxKey + 1 {
			at := first(c)
			walks(t, fmt.Sprintf("P10.1: %+v", c), c, a, key, at, loads(hintOf(c, key), 0, head(c)+2, to(at), at, 0, at+2, 0))
		}
	}
}

func TestAChunkIsToldAtTheEndAlone(t *testing.T) {
	a := made(t, two())
	w := New(two(), 5)
	for i, want := range []int{0, 0, 0, 0, 16, 16} {
		if w.Chunk() != want {
			t.Errorf("P10.1: Chunk behind %d steps: %d, not %d", i, w.Chunk(), want)
		}
		if over := w.Step(a); over != (i >= 3) {
			t.Errorf("P10.1: step %d: %v", i, over)
		}
	}
}

// TestEachLine: what each one loads, and which one comes behind it.
func TestEachLine(t *testing.T) {
	for _, x := range []struct {
		what             string
		key, hint, chunk int
		want             []load
	}{
		{"1, 5, 6: no hint, the key in the first chunk", 7, 0, 16, loads(5, 0, 11, 32, 16, 0, 18, 200, 100, 20)},
		{"5, 6, 5: in a middle one", 27, 0, 100, loads(6, 0, 11, 32, 16, 0, 18, 200, 100, 20, 102, 120, 60, 40)},
		{"5: in the last one", 50, 0, 60, loads(8, 0, 11, 32, 16, 0, 18, 200, 100, 20, 102, 120, 60, 40, 62, 0)},
		{"the least key of all", 0, 0, 16, loads(5, 0, 11, 32, 16, 0, 18, 200, 100, 20)},
		{"the greatest key of all", 63, 0, 60, loads(8, 0, 11, 32, 16, 0, 18, 200, 100, 20, 102, 120, 60, 40, 62, 0)},
		{"one below a least key", 19, 0, 16, loads(6, 0, 11, 32, 16, 0, 18, 200, 100, 20)},
		{"on a least key", 20, 0, 100, loads(6, 0, 11, 32, 16, 0, 18, 200, 100, 20, 102, 120, 60, 40)},
		{"one below the last one's", 39, 0, 100, loads(7, 0, 11, 32, 16, 0, 18, 200, 100, 20, 102, 120, 60, 40)},
		{"on the last one's", 40, 0, 60, loads(7, 0, 11, 32, 16, 0, 18, 200, 100, 20, 102, 120, 60, 40, 62, 0)},
		{"1, 2, 3, 5: a hint of the first one", 7, 16, 16, loads(5, 16, 22, 0, 16, 0, 18, 200, 100, 20)},
		{"a hint ahead of the key's chunk", 50, 16, 60, loads(8, 16, 22, 0, 16, 0, 18, 200, 100, 20, 102, 120, 60, 40, 62, 0)},
		{"a hint of the key's chunk", 27, 100, 100, loads(6, 100, 106, 0, 100, 20, 102, 120, 60, 40)},
		{"a hint of the last one", 50, 60, 60, loads(8, 60, 66, 0, 60, 40, 62, 0)},
		{"a hint that begins just at the key", 20, 100, 100, loads(6, 100, 106, 0, 100, 20, 102, 120, 60, 40)},
		{"3, 5: a hint that begins just behind it", 19, 100, 16, loads(6, 100, 106, 0, 100, 20, 11, 32, 16, 0, 18, 200, 100, 20)},
		{"a hint that begins far behind it", 0, 60, 16, loads(5, 60, 66, 0, 60, 40, 11, 32, 16, 0, 18, 200, 100, 20)},
	} {
		walks(t, "P10.1: "+x.what, two(), hinted(three(t), x.key, x.hint), x.key, x.chunk, x.want)
	}
}

// TestAHintIsOfItsKeys: the other three, which lead elsewhere, are not asked.
func TestAHintIsOfItsKeys(t *testing.T) {
	for key := range api.MaxKey + 1 {
		a := laid(t, chunk{16, 0, 0, 0}, chunk{100, 0, 0, 0}, chunk{200, 0, 0, 0})
		for i := range api.Hints {
			a.Poke(5+i, 200)
		}
		at := 5 + key/16
		a.Poke(at, 100)
		walks(t, "P10.1: hints", two(), a, key, 100, loads(at, 100, 106, 0, 100, 0, 102, 0))
		a.Poke(at, 0)
		walks(t, "P10.1: no hint among others", two(), a, key, 16, loads(at, 0, 11, 32, 16, 0, 18, 0))
	}
}

// TestLeastKeysOfAHint: each one against each key: not above it, it is taken.
func TestLeastKeysOfAHint(t *testing.T) {
	for least := -1; least <= api.MaxKey+1; least++ {
		for key := range api.MaxKey + 1 {
			a := hinted(laid(t, chunk{16, 0, 0, 0}, chunk{100, least, 0, 0}), key, 100)
			at, want := 100, loads(hintOf(two(), key), 100, 106, 0, 100, least, 102, 0)
			if least > key {
				at, want = 16, loads(hintOf(two(), key), 100, 106, 0, 100, least, 11, 32, 16, 0, 18, 0)
			}
			walks(t, "P10.1: a hint's least key", two(), a, key, at, want)
		}
	}
}

// TestLeastKeysBehind: each one against each key: not above it, the walk goes there.
func TestLeastKeysBehind(t *testing.T) {
	for least := -1; least <= api.MaxKey+1; least++ {
		for key := range api.MaxKey + 1 {
			a := laid(t, chunk{16, 0, to(100), 0}, chunk{100, least, 0, 0})
			at, want := 100, loads(hintOf(two(), key), 0, 11, 32, 16, 0, 18, 200, 100, least, 102, 0)
			if least > key {
				at, want = 16, want[:5]
			}
			walks(t, "P10.1: a least key", two(), a, key, at, want)
		}
	}
}

// TestLeastKeysThatAreNone are held against the key as the numbers that they are.
func TestLeastKeysThatAreNone(t *testing.T) {
	for _, least := range noNumbers() {
		for _, key := range []int{0, 30, 63} {
			hint := hintOf(two(), key)
			a := laid(t, chunk{16, 0, to(100), 0}, chunk{100, least, 0, 0})
			at, want := 100, loads(hint, 0, 11, 32, 16, 0, 18, 200, 100, least, 102, 0)
			if least > 0 {
				at, want = 16, want[:5]
			}
			walks(t, "P10.1: a least key that is none", two(), a, key, at, want)

			at, want = 100, loads(hint, 100, 106, 0, 100, least, 102, 0)
			if least > 0 {
				at, want = 16, loads(hint, 100, 106, 0, 100, least, 11, 32, 16, 0, 18, 200, 100, least)
			}
			walks(t, "P10.1: a hint's least key that is none", two(), hinted(a, key, 100), key, at, want)
		}
	}
}

// TestTheEndAtHead: of no chunk behind it, of one that begins behind the key.
func TestTheEndAtHead(t *testing.T) {
	for _, none := range []int{0, marked(0)} {
		a := made(t, two())
		a.Poke(11, none)
		walks(t, "P10.1: no chunk", two(), a, 5, 9, loads(5, 0, 11, none))
		lay(a, chunk{100, 0, 0, 1})
		walks(t, "P10.1: no chunk, a hint that is frozen", two(), hinted(a, 5, 100), 5, 9, loads(5, 100, 106, 1, 11, none))
	}
	a := laid(t, chunk{16, 6, 0, 0})
	walks(t, "P10.1: a first chunk behind the key", two(), a, 5, 9, loads(5, 0, 11, 32, 16, 6))
	walks(t, "P10.1: just at the key", two(), a, 6, 16, loads(5, 0, 11, 32, 16, 6, 18, 0))
	walks(t, "P10.1: a hint behind the key", two(), hinted(a, 5, 16), 5, 9, loads(5, 16, 22, 0, 16, 6, 11, 32, 16, 6))
}

// TestMarks: with and without one a next leads to the same chunk, and a frozen chunk of the chain is walked through.
func TestMarks(t *testing.T) {
	for bits := range 16 {
		words, places := make([]int, 4), []int{16, 100, 60, 0}
		for i, at := range places {
			words[i] = to(at)
			if bits>>i&1 == 1 {
				words[i] = marked(at)
			}
		}
		a := laid(t, chunk{16, 0, words[1], bits & 1}, chunk{100, 20, words[2], bits >> 1 & 1}, chunk{60, 40, words[3], 2 * (bits & 1)})
		a.Poke(11, words[0])
		whole := loads(0, 0, 11, words[0], 16, 0, 18, words[1], 100, 20, 102, words[2], 60, 40, 62, words[3])
		for key, n := range map[int]int{5: 5, 19: 5, 20: 7, 39: 7, 40: 8, 63: 8} {
			whole[0].at = hintOf(two(), key)
			walks(t, "P10.1: marks", two(), a, key, places[(n-5+1)/2], whole[:n])
		}
	}
}

// TestPlaces: a chunk may begin at any place, the least and the last ones too.
func TestPlaces(t *testing.T) {
	for _, at := range []int{16, 17, 35, 36, 100, 133, 200, 280, 281} {
		for _, next := range []int{to(at), marked(at)} {
			a := laid(t, chunk{at, 3, 0, 0})
			a.Poke(11, next)
			walks(t, "P10.1: places", two(), a, 5, at, loads(5, 0, 11, next, at, 3, at+2, 0))
			walks(t, "P10.1: places, by the hint", two(), hinted(a, 5, at), 5, at, loads(5, at, at+6, 0, at, 3, at+2, 0))
		}
	}
}

// TestAHintThatIsNotThere: what is loaded there is 0; so is what lies behind the last word.
func TestAHintThatIsNotThere(t *testing.T) {
	for _, x := range []int{300, 301, 1000, 20000, 1 << 30, 1 << 62} {
		walks(t, "P10.1: a hint that isn't there", two(), hinted(three(t), 30, x), 30, x, loads(6, x, x+6, 0, x, 0, x+2, 0))
	}
	a := hinted(three(t), 30, 297)
	a.Poke(297, 30)
	a.Poke(299, to(60))
	walks(t, "P10.1: a hint that isn't all there", two(), a, 30, 297, loads(6, 297, 303, 0, 297, 30, 299, 120, 60, 40))
	a.Poke(297, 31)
	walks(t, "P10.1: one of them behind the key", two(), a, 30, 100, loads(6, 297, 303, 0, 297, 31, 11, 32, 16, 0, 18, 200, 100, 20, 102, 120, 60, 40))
	walks(t, "P10.1: a hint below 0", two(), hinted(three(t), 30, -1), 30, -1, loads(6, -1, 5, 0, -1, 0, 1, 0))
	walks(t, "P10.1: a hint far below 0", two(), hinted(three(t), 30, -50), 30, -50, loads(6, -50, -44, 0, -50, 0, -48, 0))
	walks(t, "P10.1: a hint of 1", two(), hinted(three(t), 30, 1), 30, 1, loads(6, 1, 7, 0, 1, 0, 3, 0))
}

// TestANextThatIsNotThere: likewise; so such a walk ends there.
func TestANextThatIsNotThere(t *testing.T) {
	for _, n := range []int{300, 301, 20000, 1 << 30, 1 << 61} {
		a := laid(t, chunk{16, 0, to(n), 0})
		walks(t, "P10.1: a next that isn't there", two(), a, 63, n, loads(8, 0, 11, 32, 16, 0, 18, to(n), n, 0, n+2, 0))
		a.Poke(11, marked(n))
		walks(t, "P10.1: Head's next isn't there", two(), a, 63, n, loads(8, 0, 11, marked(n), n, 0, n+2, 0))
	}
}

// TestFallingLeastKeys: the lines hold each of them against the key alone.
func TestFallingLeastKeys(t *testing.T) {
	a := laid(t, chunk{16, 9, to(100), 0}, chunk{100, 5, to(60), 0}, chunk{60, 7, to(200), 0}, chunk{200, 7, 0, 0})
	walks(t, "P10.1: falling", two(), a, 9, 200, loads(5, 0, 11, 32, 16, 9, 18, 200, 100, 5, 102, 120, 60, 7, 62, 400, 200, 7, 202, 0))
	walks(t, "P10.1: falling", two(), a, 6, 9, loads(5, 0, 11, 32, 16, 9))
	walks(t, "P10.1: falling, from a hint", two(), hinted(a, 6, 100), 6, 100, loads(5, 100, 106, 0, 100, 5, 102, 120, 60, 7))
}

// TestAChainThatComesRound: each step ends; the walk does, when others let it.
func TestAChainThatComesRound(t *testing.T) {
	a := laid(t, chunk{16, 0, to(100), 0}, chunk{100, 0, to(16), 0})
	w, want := New(two(), 5), loads(5, 0, 11, 32)
	for range 500 {
		want = append(want, loads(16, 0, 18, 200, 100, 0, 102, 32)...)
	}
	for i, x := range want {
		if got, over := step(t, w, a); over || got != x {
			t.Fatalf("P10.1: round, step %d: %v, %v, not %v", i, got, over, x)
		}
	}
	a.Poke(18, marked(0))
	if got := walked(t, w, a); !slices.Equal(got, loads(16, 0, 18, 1)) || w.Chunk() != 16 {
		t.Errorf("P10.1: round, then let go: %v, at %d", got, w.Chunk())
	}
}

// TestALongChain: of as many chunks as there are words for.
func TestALongChain(t *testing.T) {
	c := api.Conf{Threads: 1, Cap: 3, Words: api.MaxWords, Versions: 1}
	a := made(t, c)
	at, want := first(c), loads(4, 0, head(c)+2, to(first(c)))
	for at+32 <= api.MaxWords {
		a.Poke(at+api.FNext, to(at+16))
		want = append(want, load{at, 0}, load{at + 2, to(at + 16)})
		at += 16
	}
	want = append(want, load{at, 0}, load{at + 2, 0})
	w := New(c, 5)
	for i, x := range want {
		if over := w.Step(a); over != (i == len(want)-1) || a.Last().At != x.at || a.Last().Old != x.word {
			t.Fatalf("P10.1: step %d: %+v, %v, not %v", i, a.Last(), over, x)
		}
	}
	if w.Chunk() != at {
		t.Errorf("P10.1: at %d, not %d", w.Chunk(), at)
	}
}

// change: between this step (of so many that are behind it) and the next one, by others.
type change struct{ behind, at, word int }

func do(a *arena.Arena, changes []change, behind int) {
	for _, x := range changes {
		if x.behind == behind {
			a.Poke(x.at, x.word)
		}
	}
}

// mostLoads that a walk amid changes is followed for, as it may come round.
const mostLoads = 60

// walkedAmid: all that w loads, while a is changed.
func walkedAmid(t *testing.T, w *Walk, a *arena.Arena, changes []change) []load {
	t.Helper()
	var l []load
	for range mostLoads {
		do(a, changes, len(l))
		x, over := step(t, w, a)
		l = append(l, x)
		if over {
			behind(t, w, a)
			break
		}
	}
	return l
}

// toldAmid: what lines loads of a copy of a, changed likewise, and where it ends; 0, if it goes on.
func toldAmid(c api.Conf, key int, a *arena.Arena, changes []change) ([]load, int) {
	b, n := a.Copy(), 0
	var l []load
	end := lines(c, key, func(at int) int {
		n++
		if n > mostLoads {
			return 0
		}
		do(b, changes, len(l))
		l = append(l, load{at, b.Peek(at)})
		return b.Peek(at)
	})
	if n > mostLoads {
		end = 0
	}
	return l, end
}

func followsLines(t *testing.T, c api.Conf, key int, a *arena.Arena, changes ...change) {
	t.Helper()
	want, end := toldAmid(c, key, a, changes)
	w := New(c, key)
	if got := walkedAmid(t, w, a, changes); !slices.Equal(got, want) || w.Chunk() != end {
		t.Errorf("P10.1: walk to %d amid %v: %v, at %d, not %v, at %d", key, changes, got, w.Chunk(), want, end)
	}
}

// TestChangesBetweenSteps: what a line loaded counts as it was then, and nothing else of it later.
func TestChangesBetweenSteps(t *testing.T) {
	for _, x := range []struct {
		what             string
		key, hint, chunk int
		changes          []change
		want             []load
	}{
		{"a hint is laid just ahead of 1", 50, 0, 60, []change{{0, 8, 60}}, loads(8, 60, 66, 0, 60, 40, 62, 0)},
		{"just behind it", 50, 0, 60, []change{{1, 8, 60}}, loads(8, 0, 11, 32, 16, 0, 18, 200, 100, 20, 102, 120, 60, 40, 62, 0)},
		{"the hint is taken away behind 1", 50, 60, 60, []change{{1, 8, 0}}, loads(8, 60, 66, 0, 60, 40, 62, 0)},
		{"it is frozen just ahead of 2", 27, 100, 100, []change{{1, 106, 1}}, loads(6, 100, 106, 1, 11, 32, 16, 0, 18, 200, 100, 20, 102, 120, 60, 40)},
		{"just behind 2", 27, 100, 100, []change{{2, 106, 1}}, loads(6, 100, 106, 0, 100, 20, 102, 120, 60, 40)},
		{"it stands again just ahead of 2", 27, 100, 100, []change{{0, 106, 1}, {1, 106, 0}}, loads(6, 100, 106, 0, 100, 20, 102, 120, 60, 40)},
		{"its least key rises just ahead of 3", 27, 100, 16, []change{{2, 100, 28}}, loads(6, 100, 106, 0, 100, 28, 11, 32, 16, 0, 18, 200, 100, 28)},
		{"just behind 3", 27, 100, 100, []change{{3, 100, 28}}, loads(6, 100, 106, 0, 100, 20, 102, 120, 60, 40)},
		{"its least key falls just ahead of 3", 27, 60, 60, []change{{2, 60, 27}}, loads(6, 60, 66, 0, 60, 27, 62, 0)},
		{"just behind 3", 27, 60, 60, []change{{3, 60, 27}}, loads(6, 60, 66, 0, 60, 40, 11, 32, 16, 0, 18, 200, 100, 20, 102, 120, 60, 27, 62, 0)},
		{"Head leads elsewhere just ahead of 5", 27, 0, 100, []change{{1, 11, 200}}, loads(6, 0, 11, 200, 100, 20, 102, 120, 60, 40)},
		{"just behind 5", 27, 0, 100, []change{{2, 11, 120}}, loads(6, 0, 11, 32, 16, 0, 18, 200, 100, 20, 102, 120, 60, 40)},
		{"a next ends the chain just ahead of 5", 27, 0, 16, []change{{3, 18, 1}}, loads(6, 0, 11, 32, 16, 0, 18, 1)},
		{"just behind 5", 27, 0, 100, []change{{4, 18, 1}}, loads(6, 0, 11, 32, 16, 0, 18, 200, 100, 20, 102, 120, 60, 40)},
		{"a next leads on just ahead of 5", 50, 60, 100, []change{{3, 62, 201}, {5, 102, 1}}, loads(8, 60, 66, 0, 60, 40, 62, 201, 100, 20, 102, 1)},
		{"a least key rises just ahead of 6", 27, 0, 16, []change{{4, 100, 28}}, loads(6, 0, 11, 32, 16, 0, 18, 200, 100, 28)},
		{"just behind 6", 27, 0, 100, []change{{5, 100, 28}}, loads(6, 0, 11, 32, 16, 0, 18, 200, 100, 20, 102, 120, 60, 40)},
		{"the last least key falls just ahead of 6", 27, 0, 60, []change{{6, 60, 27}}, loads(6, 0, 11, 32, 16, 0, 18, 200, 100, 20, 102, 120, 60, 27, 62, 0)},
		{"just behind 6", 27, 0, 100, []change{{7, 60, 27}}, loads(6, 0, 11, 32, 16, 0, 18, 200, 100, 20, 102, 120, 60, 40)},
		{"it is frozen while the walk stands at it", 27, 0, 100, []change{{5, 106, 2}, {5, 102, 121}}, loads(6, 0, 11, 32, 16, 0, 18, 200, 100, 20, 102, 121, 60, 40)},
	} {
		w := New(two(), x.key)
		got := walkedAmid(t, w, hinted(three(t), x.key, x.hint), x.changes)
		if !slices.Equal(got, x.want) || w.Chunk() != x.chunk {
			t.Errorf("P10.1: %s: %v, at %d, not %v, at %d", x.what, got, w.Chunk(), x.want, x.chunk)
		}
	}
}

// TestEachChange: of each word, between any two steps, ahead of and behind them all.
func TestEachChange(t *testing.T) {
	for _, hint := range []int{0, 16, 100, 60} {
		for step := range 11 {
			for at := range 122 {
				for _, word := range []int{0, 1, 27, 28, 120, 201} {
					followsLines(t, two(), 27, hinted(three(t), 27, hint), change{step, at, word})
				}
			}
		}
	}
}

// drawer: numbers by rule, from 0 on, below what is asked.
func drawer(seed int) func(below int) int {
	n := seed
	return func(below int) int {
		n = (n*1103515245 + 12345) % (1 << 31)
		return n >> 8 % below
	}
}

// drawnWord: a place, a next, a key or a little number.
func drawnWord(draw func(int) int) int {
	at := 16 + 7*draw(12)
	switch draw(10) {
	case 0:
		return at
	case 1, 2, 3, 4, 5:
		return 2*at + draw(2)
	case 6:
		return draw(api.MaxKey + 2)
	}
	return draw(2) * draw(3)
}

// TestDrawnWords: words that are no chain's, and changes of many of them.
func TestDrawnWords(t *testing.T) {
	c := api.Conf{Threads: 2, Cap: 4, Words: 110, Versions: 1}
	draw, ended, long := drawer(1), 0, 0
	for range 6000 {
		a := made(t, c)
		for at := range a.Len() {
			a.Poke(at, drawnWord(draw))
		}
		changes := make([]change, draw(40))
		for i := range changes {
			changes[i] = change{draw(20), draw(a.Len()), drawnWord(draw)}
		}
		for range draw(12) {
			lay(a, chunk{16 + 7*draw(12), draw(40), 2*(16+7*draw(12)) + draw(2), draw(2)})
		}
		key := draw(api.MaxKey + 1)
		l, end := toldAmid(c, key, a, changes)
		if end != 0 {
			ended++
		}
		if len(l) > 10 {
			long++
		}
		followsLines(t, c, key, a, changes...)
	}
	if ended < 1000 || long < 300 {
		t.Errorf("%d walks end, %d are long", ended, long)
	}
}

// spots that a drawn chunk may lie at.
const spots = 14

// drawnChain: chunks whose least keys rise from 0 on, in drawn spots.
func drawnChain(t *testing.T, draw func(int) int) (*arena.Arena, []chunk) {
	t.Helper()
	var l []chunk
	var used [spots]bool
	for least := 0; least <= api.MaxKey; least += 6 + draw(20) {
		spot := draw(spots)
		for used[spot] {
			spot = (spot + 1) % spots
		}
		used[spot] = true
		l = append(l, chunk{at: 16 + 19*spot, least: least, status: draw(4) / 2 * (1 + draw(2))})
	}
	for i := range l[1:] {
		l[i].next = to(l[i+1].at) + draw(2)
	}
	a := laid(t, l...)
	a.Poke(11, to(l[0].at)+draw(2))
	return a, l
}

// TestDrawnChains: from wherever it begins, it ends at the last chunk that doesn't begin behind the key.
func TestDrawnChains(t *testing.T) {
	draw := drawer(2)
	for range 300 {
		a, l := drawnChain(t, draw)
		for i := range api.Hints {
			a.Poke(5+i, draw(3)/2*l[draw(len(l))].at)
		}
		for key := range api.MaxKey + 1 {
			want := 0
			for _, x := range l {
				if x.least <= key {
					want = x.at
				}
			}
			w := New(two(), key)
			if walked(t, w, a); w.Chunk() != want {
				t.Errorf("P10.1: %+v, hints %v: to %d: at %d, not %d", l, words(a)[5:9], key, w.Chunk(), want)
			}
		}
	}
}

// TestWalksAtTheSameTime: in one arena, however they go, each one loads what it would alone, at those times.
func TestWalksAtTheSameTime(t *testing.T) {
	draw := drawer(3)
	for range 300 {
		a, l := drawnChain(t, draw)
		a.Poke(5+draw(api.Hints), l[draw(len(l))].at)
		keys := []int{draw(64), draw(64), draw(64), draw(64)}
		var picks []int
		var changes []change
		for i := range 150 {
			picks = append(picks, draw(len(keys)))
			if draw(4) == 0 {
				changes = append(changes, change{i, l[draw(len(l))].at + draw(7), drawnWord(draw)})
			}
		}
		together := picked(t, keys, picks, a.Copy(), changes, -1)
		for i := range keys {
			alone := picked(t, keys, picks, a.Copy(), changes, i)
			if !slices.Equal(together[i], alone[i]) {
				t.Errorf("P10.1: walk to %d with others: %v, alone %v", keys[i], together[i], alone[i])
			}
		}
	}
}

// picked: what each of the walks to these keys loads, as the picks say, while a is changed; only's alone, if it is one. Behind them where each stands.
func picked(t *testing.T, keys, picks []int, a *arena.Arena, changes []change, only int) [][]load {
	t.Helper()
	walks, ended, l := make([]*Walk, len(keys)), make([]bool, len(keys)), make([][]load, len(keys))
	for i, key := range keys {
		walks[i] = New(two(), key)
	}
	for i, p := range picks {
		do(a, changes, i)
		switch {
		case only >= 0 && p != only:
		case ended[p]:
			behind(t, walks[p], a)
		default:
			x, over := step(t, walks[p], a)
			l[p], ended[p] = append(l[p], x), over
		}
	}
	for i, w := range walks {
		l[i] = append(l[i], load{-1, w.Chunk()})
	}
	return l
}

// TestEachOrderOfTwoWalks: of 4 and of 4 steps, in each order; to one key, to two.
func TestEachOrderOfTwoWalks(t *testing.T) {
	for bits := range 1 << 9 {
		a, far := laid(t, chunk{16, 0, 0, 0}), bits>>8
		one, other := New(two(), 5), New(two(), 5+20*far)
		var got, its []load
		for i := range 8 {
			w, l := one, &got
			if bits>>i&1 == 1 {
				w, l = other, &its
			}
			if len(*l) == 4 {
				behind(t, w, a)
				continue
			}
			x, over := step(t, w, a)
			if *l = append(*l, x); over != (len(*l) == 4) {
				t.Fatalf("P10.1: order %b: ended %v behind %v", bits, over, *l)
			}
		}
		want, theirs := loads(5, 0, 11, 32, 16, 0, 18, 0), loads(5+far, 0, 11, 32, 16, 0, 18, 0)
		if !slices.Equal(got, want[:len(got)]) || !slices.Equal(its, theirs[:len(its)]) {
			t.Errorf("P10.1: order %b: %v, %v", bits, got, its)
		}
	}
}

// TestAnArenaIsNotKept: each step asks the one that it is handed.
func TestAnArenaIsNotKept(t *testing.T) {
	w := New(two(), 27)
	var got []load
	for over := false; !over; {
		a := three(t)
		var x load
		x, over = step(t, w, a)
		got = append(got, x)
		for at := range a.Len() {
			a.Poke(at, 1)
		}
	}
	if want := loads(6, 0, 11, 32, 16, 0, 18, 200, 100, 20, 102, 120, 60, 40); !slices.Equal(got, want) || w.Chunk() != 100 {
		t.Errorf("P10.1: of many arenas: %v, at %d", got, w.Chunk())
	}
}

// P10.2: a hint that is stale

// TestStaleHints: frozen, replaced, or of any other status but 0: from Head on, and the hint's chunk isn't asked any further.
func TestStaleHints(t *testing.T) {
	for _, status := range append(noNumbers(), 1, 2, 3) {
		for _, hint := range []int{16, 100, 60} {
			for key := range api.MaxKey + 1 {
				want := loads(hintOf(two(), key), hint, hint+6, status, 11, 32, 16, 0, 18, 200, 100, 20, 102, 120, 60, 40, 62, 0)
				end, n := 16, 6
				if key >= 20 {
					end, n = 100, 8
				}
				if key >= 40 {
					end, n = 60, 9
				}
				a := hinted(three(t), key, hint)
				a.Poke(hint+api.FStatus, status)
				walks(t, "P10.2: stale", two(), a, key, end, want[:n])
			}
		}
	}
}

// TestAReplacedHint: its chunk is no longer in the chain, and what came for it is found.
func TestAReplacedHint(t *testing.T) {
	for _, status := range []int{1, 2} {
		a := laid(t, chunk{16, 0, to(200), 0}, chunk{100, 20, marked(60), status}, chunk{200, 20, to(60), 0}, chunk{60, 40, 0, 0})
		walks(t, "P10.2: replaced", two(), hinted(a, 27, 100), 27, 200, loads(6, 100, 106, status, 11, 32, 16, 0, 18, 400, 200, 20, 202, 120, 60, 40))
	}
}

// TestReplacedOnTheWay: a chunk that is replaced while the walk stands at it leads on by what it had behind it.
func TestReplacedOnTheWay(t *testing.T) {
	for _, hint := range []int{0, 100} {
		a := hinted(laid(t, chunk{16, 0, to(100), 0}, chunk{100, 20, to(60), 0}, chunk{60, 40, 0, 0}, chunk{200, 20, to(60), 0}), 50, hint)
		steps, want := 5, loads(8, 0, 11, 32, 16, 0, 18, 200, 100, 20, 102, 121, 60, 40, 62, 0)
		if hint != 0 {
			steps, want = 3, loads(8, 100, 106, 0, 100, 20, 102, 121, 60, 40, 62, 0)
		}
		w := New(two(), 50)
		got := walkedAmid(t, w, a, []change{{steps, 106, 2}, {steps, 102, marked(60)}, {steps, 18, to(200)}})
		if !slices.Equal(got, want) || w.Chunk() != 60 {
			t.Errorf("P10.2: hint %d: %v, at %d, not %v", hint, got, w.Chunk(), want)
		}
	}
}

// Wrong inputs

// TestAnyInputs: of these nothing is promised but that no call panics, and that a step is one access at most.
func TestAnyInputs(t *testing.T) {
	bad := []api.Conf{{}, {Threads: -1, Cap: -1, Words: -1, Versions: -1}, {Threads: math.MaxInt, Cap: math.MaxInt}, {Threads: math.MinInt, Cap: math.MinInt}, two()}
	for _, c := range bad {
		for _, key := range append(noNumbers(), 0, 63) {
			for _, word := range append(noNumbers(), 0, 1, 2, 16, 32) {
				a := arena.New(20)
				for at := range a.Len() {
					a.Poke(at, word)
				}
				anySteps(t, New(c, key), a)
				anySteps(t, New(c, key), arena.New(-1))
			}
		}
	}
	anySteps(t, new(Walk), arena.New(20))
}

func anySteps(t *testing.T, w *Walk, a *arena.Arena) {
	t.Helper()
	for range 12 {
		n, was := a.Accesses(), words(a)
		over := w.Step(a)
		if !slices.Equal(words(a), was) || a.Accesses() > n+1 || !over && (a.Accesses() == n || w.Chunk() != 0) {
			t.Fatalf("P10.1: %+v: ended %v, %d accesses, at %d", w, over, a.Accesses()-n, w.Chunk())
		}
	}
}
