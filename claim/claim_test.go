package claim

import (
	"errors"
	"fmt"
	"math"
	"slices"
	"testing"

	"armillary/api"
	"armillary/arena"
	"armillary/place"
)

// The clock is at 1, the Psas of the threads from 3 on.
const clock = 1

func psa(thread int) int { return 3 + thread }

// two threads, chunks of four cells.
func two() api.Conf { return api.Conf{Threads: 2, Cap: 4, Words: 80, Versions: 100} }

func eight() api.Conf { return api.Conf{Threads: 8, Cap: 10, Words: 80, Versions: 100} }

// confs: each number of threads, the least and the most cells, the least and the most versions and some.
func confs() []api.Conf {
	var l []api.Conf
	for threads := 1; threads <= api.MaxThreads; threads++ {
		for _, cells := range []int{threads + 2, api.MaxCap} {
			for _, versions := range []int{1, 2, 3, 100, api.MaxVersions - 1, api.MaxVersions} {
				l = append(l, api.Conf{Threads: threads, Cap: cells, Words: 80, Versions: versions})
			}
		}
	}
	return l
}

// mostSeq, mostPart: the greatest that a word holds.
const (
	mostSeq  = 1 << 30
	mostPart = 1<<24 - 4
)

// of: a Psa's word, of that sequence and part.
func of(seq, part int) int { return seq<<24 + part }

// noNumbers: those that are great, and those below 0.
func noNumbers() []int {
	return []int{math.MinInt, math.MinInt + 3, -1 << 62, -1 << 40, -20000, -64, -7, -3, -2, -1, 1 << 20, 1<<20 + 1, mostPart, mostPart + 1, 1 << 24, 1 << 40, 1 << 62, math.MaxInt - 3}
}

func made(t *testing.T, c api.Conf) *arena.Arena {
	t.Helper()
	a, err := place.Make(c)
	if err != nil {
		t.Fatalf("P3.2: Make of %+v: %v", c, err)
	}
	return a
}

// laid: an arena whose every word is another one, and that has some accesses behind it; its clock and the thread's Psa are these.
func laid(t *testing.T, c api.Conf, now, thread, word int) *arena.Arena {
	t.Helper()
	a := made(t, c)
	a.Store(0, 5)
	a.Swap(0, 5, 6)
	for at := range a.Len() {
		a.Poke(at, of(at+1, at))
	}
	a.Poke(clock, now)
	a.Poke(psa(thread), word)
	return a
}

func load(at, word int) api.Access { return api.Access{Kind: api.KLoad, At: at, Old: word, New: word} }

func store(at, old, word int) api.Access {
	return api.Access{Kind: api.KStore, At: at, Old: old, New: word}
}

func add(at, old int) api.Access { return api.Access{Kind: api.KAdd, At: at, Old: old, New: old + 1} }

// swap: one that is done; vain: one that found that word.
func swap(at, old, word int) api.Access {
	return api.Access{Kind: api.KSwap, At: at, Old: old, New: word, Ok: true}
}

func vain(at, word int) api.Access {
	return api.Access{Kind: api.KSwap, At: at, Old: word, New: word}
}

// alone: a claim's accesses, if nobody else does anything: it gets the version that the clock tells.
func alone(thread, seq, was, now int) []api.Access {
	at, asks, has := psa(thread), of(seq, 1), of(seq, now+2)
	return []api.Access{load(clock, now), store(at, was, asks), add(clock, now), swap(at, asks, has), load(at, has)}
}

func words(a *arena.Arena) []int {
	l := make([]int, a.Len())
	for at := range l {
		l[at] = a.Peek(at)
	}
	return l
}

// is: that version and that error, however often it is asked.
func is(t *testing.T, what string, k *Claim, version int, want error) {
	t.Helper()
	for range 3 {
		got, err := k.Version()
		var number api.Errno
		told := err == nil
		if want != nil {
			told = errors.Is(err, want) && errors.As(err, &number) && number == want
		}
		if got != version || !told {
			t.Errorf("%s: Version: %d, %v, not %d, %v", what, got, err, version, want)
		}
	}
}

// step: one that isn't behind the end: its access, and whether it has ended. It is one access, and changes no word but the one that it tells.
func step(t *testing.T, k *Claim, a *arena.Arena) (api.Access, bool) {
	t.Helper()
	is(t, "P13.1: ahead of the end", k, 0, nil)
	want, n := words(a), a.Accesses()
	over := k.Step(a)
	last := a.Last()
	if a.Accesses() != n+1 {
		t.Fatalf("P13.1: a step of %d accesses, the last one %+v", a.Accesses()-n, last)
	}
	if last.At >= 0 && last.At < len(want) {
		want[last.At] = last.New
	}
	if !slices.Equal(words(a), want) {
		t.Fatalf("P13.1: %+v changes another word", last)
	}
	return last, over
}

// behind its end: no access, nothing changed, true, whatever the words are by now.
func behind(t *testing.T, k *Claim, a *arena.Arena) {
	t.Helper()
	version, err := k.Version()
	full := a.Copy()
	for at := range full.Len() {
		full.Poke(at, of(at, 100))
	}
	for _, b := range []*arena.Arena{a, a, full, arena.New(10), arena.New(1), a} {
		was, n, last := words(b), b.Accesses(), b.Last()
		if !k.Step(b) {
			t.Error("P13.1: behind its end Step tells false")
		}
		if b.Accesses() != n || b.Last() != last || !slices.Equal(words(b), was) {
			t.Errorf("P13.1: behind its end Step does something: %+v", b.Last())
		}
		is(t, "P13.1: behind its end", k, version, err)
	}
}

// change: between this step (of so many that are behind it) and the next one, by others.
type change struct{ behind, at, word int }

func do(a *arena.Arena, changes []change, behind int) {
	for _, x := range changes {
		if x.behind == behind {
			a.Poke(x.at, x.word)
		}
	}
}

// amid: all that k does, while a is changed, also behind the end.
func amid(t *testing.T, k *Claim, a *arena.Arena, changes ...change) []api.Access {
	t.Helper()
	var done []api.Access
	for over := false; !over; {
		if len(done) == 5 {
			t.Fatalf("P13.1: it doesn't end behind %v", done)
		}
		do(a, changes, len(done))
		var x api.Access
		x, over = step(t, k, a)
		done = append(done, x)
	}
	do(a, changes, len(done))
	behind(t, k, a)
	return done
}

// tells this version or error, by these accesses; likewise when it is asked again, as it was.
func tells(t *testing.T, what string, c api.Conf, a *arena.Arena, thread, seq, version int, err error, want []api.Access) {
	t.Helper()
	for range 2 {
		k := New(c, thread, seq)
		if got := amid(t, k, a.Copy()); !slices.Equal(got, want) {
			t.Errorf("%s: thread %d, sequence %d: %v, not %v", what, thread, seq, got, want)
		}
		is(t, what, k, version, err)
	}
}

// P13.1: the lines

func TestANewArena(t *testing.T) {
	for _, c := range confs() {
		for thread := range c.Threads {
			tells(t, fmt.Sprintf("P13.1: %+v", c), c, made(t, c), thread, 1, 0, nil, alone(thread, 1, 0, 0))
		}
	}
}

// TestWordByWord: the accesses in numbers.
func TestWordByWord(t *testing.T) {
	a := made(t, two())
	a.Poke(1, 7)
	a.Poke(4, 0x2000005)
	want := []api.Access{
		{Kind: api.KLoad, At: 1, Old: 7, New: 7},
		{Kind: api.KStore, At: 4, Old: 0x2000005, New: 0x3000001},
		{Kind: api.KAdd, At: 1, Old: 7, New: 8},
		{Kind: api.KSwap, At: 4, Old: 0x3000001, New: 0x3000009, Ok: true},
		{Kind: api.KLoad, At: 4, Old: 0x3000009, New: 0x3000009},
	}
	tells(t, "P13.1: word by word", two(), a, 1, 3, 7, nil, want)
}

// TestWhatIsThere: words that others keep stay as they are, and what the Psa was doesn't matter.
func TestWhatIsThere(t *testing.T) {
	for thread := range 8 {
		for _, was := range append(noNumbers(), 0, 1, 2, of(1, 0), of(1, 1), of(1, 9), of(2, 0), of(2, 1), of(2, 9), of(3, 0), of(3, 1), of(3, 9)) {
			a := laid(t, eight(), 40, thread, was)
			tells(t, fmt.Sprint("P13.1: a Psa that was ", was), eight(), a, thread, 2, 40, nil, alone(thread, 2, was, 40))
		}
	}
}

// TestSequences: from the first one on; one that is too great is held.
func TestSequences(t *testing.T) {
	for _, seq := range []int{1, 2, 3, 999, 1000, 1001, 1 << 20, 1 << 24, mostSeq - 1, mostSeq} {
		tells(t, "P13.1: sequences", two(), laid(t, two(), 40, 1, 5), 1, seq, 40, nil, alone(1, seq, 5, 40))
	}
	for _, seq := range []int{mostSeq + 1, 1 << 40, math.MaxInt} {
		tells(t, "P13.1: a sequence that is too great", two(), laid(t, two(), 40, 1, 5), 1, seq, 40, nil, alone(1, mostSeq, 5, 40))
	}
}

// TestClocks: below Versions each one is the version; at and above it there is none, and no word is changed.
func TestClocks(t *testing.T) {
	for _, c := range confs() {
		for _, now := range []int{0, 1, 2, 50, c.Versions - 3, c.Versions - 2, c.Versions - 1} {
			if now >= 0 && now < c.Versions {
				a := laid(t, c, now, c.Threads-1, 5)
				tells(t, fmt.Sprintf("P13.1: %+v, clock %d", c, now), c, a, c.Threads-1, 4, now, nil, alone(c.Threads-1, 4, 5, now))
			}
		}
		for _, now := range []int{c.Versions, c.Versions + 1, c.Versions + 2, 2 * c.Versions, 1 << 30, 1 << 62, math.MaxInt} {
			a := laid(t, c, now, c.Threads-1, 5)
			tells(t, fmt.Sprintf("P13.1: none left: %+v, clock %d", c, now), c, a, c.Threads-1, 4, 0, api.ErrVersion, []api.Access{load(clock, now)})
		}
	}
}

// TestTheErrorIsTold by one access that changes nothing, though others make room behind it.
func TestTheErrorIsTold(t *testing.T) {
	for thread := range 8 {
		a := laid(t, eight(), 100, thread, of(1, 9))
		was, n := words(a), a.Accesses()
		k := New(eight(), thread, 2)
		is(t, "P13.1: ahead of the end", k, 0, nil)
		if !k.Step(a) || a.Accesses() != n+1 || !slices.Equal(words(a), was) {
			t.Errorf("P13.1: none left: %d accesses, the last one %+v", a.Accesses()-n, a.Last())
		}
		is(t, "P13.1: none left", k, 0, api.ErrVersion)
		a.Poke(clock, 0)
		behind(t, k, a)
		is(t, "P13.1: none left then", k, 0, api.ErrVersion)
	}
}

// TestAVersionIsToldAtTheEndAlone, and then for ever, whatever the clock and the Psa are.
func TestAVersionIsToldAtTheEndAlone(t *testing.T) {
	a, k := laid(t, two(), 40, 0, 5), New(two(), 0, 2)
	for i := range 9 {
		want := 0
		if i >= 5 {
			want = 40
			a.Poke(clock, 100*i)
			a.Poke(psa(0), of(3, i))
		}
		is(t, fmt.Sprintf("P13.1: behind %d steps", i), k, want, nil)
		if over := k.Step(a); over != (i >= 4) {
			t.Errorf("P13.1: step %d: %v", i, over)
		}
	}
}

// TestOneBehindTheOther: of each thread and sequence, in whatever order: the versions rise, one by one, until none is left.
func TestOneBehindTheOther(t *testing.T) {
	draw := drawer(1)
	for _, c := range confs() {
		if c.Versions > 100 {
			continue
		}
		a := made(t, c)
		var seqs, was [api.MaxThreads]int
		for version := range c.Versions {
			thread := draw(c.Threads)
			seqs[thread]++
			k := New(c, thread, seqs[thread])
			if got, want := amid(t, k, a), alone(thread, seqs[thread], was[thread], version); !slices.Equal(got, want) {
				t.Errorf("P13.1: %+v, version %d: %v, not %v", c, version, got, want)
			}
			is(t, "P13.1: one behind the other", k, version, nil)
			was[thread] = of(seqs[thread], version+2)
		}
		for thread := range c.Threads {
			tells(t, "P13.1: all are taken", c, a, thread, seqs[thread]+1, 0, api.ErrVersion, []api.Access{load(clock, c.Versions)})
			if a.Peek(psa(thread)) != was[thread] {
				t.Errorf("P13.1: %+v: the Psa of %d is %d, not %d", c, thread, a.Peek(psa(thread)), was[thread])
			}
		}
	}
}

// TestTheNextOneOfAThread: what the scan behind the first claim leaves at its Psa doesn't matter.
func TestTheNextOneOfAThread(t *testing.T) {
	a := made(t, two())
	tells(t, "P13.1: the first one", two(), a, 0, 1, 0, nil, alone(0, 1, 0, 0))
	for seq := 1; seq <= 50; seq++ {
		was := []int{of(seq-1, 0), of(seq-1, seq+1)}[seq%2]
		a.Poke(psa(0), was)
		k := New(two(), 0, seq)
		if got, want := amid(t, k, a), alone(0, seq, was, seq-1); !slices.Equal(got, want) {
			t.Errorf("P13.1: sequence %d: %v, not %v", seq, got, want)
		}
		is(t, "P13.1: the next one", k, seq-1, nil)
	}
}

// TestChangesBetweenSteps: what a line was told counts as it was then, and nothing else of it later.
func TestChangesBetweenSteps(t *testing.T) {
	at, asks := psa(1), of(2, 1)
	whole := alone(1, 2, 5, 40)
	for _, x := range []struct {
		what    string
		changes []change
		want    []api.Access
		version int
		err     error
	}{
		{"none", nil, whole, 40, nil},
		{"the last version goes just ahead of 1", []change{{0, clock, 100}}, []api.Access{load(clock, 100)}, 0, api.ErrVersion},
		{"the last but one", []change{{0, clock, 99}}, alone(1, 2, 5, 99), 99, nil},
		{"the clock goes on just behind 1", []change{{1, clock, 43}}, []api.Access{load(clock, 40), store(at, 5, asks), add(clock, 43), swap(at, asks, of(2, 45)), load(at, of(2, 45))}, 43, nil},
		{"just ahead of 3", []change{{2, clock, 43}}, []api.Access{load(clock, 40), store(at, 5, asks), add(clock, 43), swap(at, asks, of(2, 45)), load(at, of(2, 45))}, 43, nil},
		{"just behind 3", []change{{3, clock, 44}}, whole, 40, nil},
		{"ahead of the last line", []change{{4, clock, 44}}, whole, 40, nil},
		{"behind the end", []change{{5, clock, 44}}, whole, 40, nil},
		{"the clock comes to Versions behind 1", []change{{1, clock, 100}}, []api.Access{load(clock, 40), store(at, 5, asks), add(clock, 100), swap(at, asks, of(2, 102)), load(at, of(2, 102))}, 100, nil},
		{"and far above them", []change{{2, clock, mostPart}}, []api.Access{load(clock, 40), store(at, 5, asks), add(clock, mostPart), swap(at, asks, of(2, mostPart)), load(at, of(2, mostPart))}, mostPart - 2, nil},
		{"as far as a part goes", []change{{2, clock, mostPart - 2}}, []api.Access{load(clock, 40), store(at, 5, asks), add(clock, mostPart-2), swap(at, asks, of(2, mostPart)), load(at, of(2, mostPart))}, mostPart - 2, nil},
		{"the Psa is another one ahead of 2", []change{{1, at, 77}}, []api.Access{load(clock, 40), store(at, 77, asks), add(clock, 40), swap(at, asks, of(2, 42)), load(at, of(2, 42))}, 40, nil},
		{"another one gives the version just behind 2", []change{{2, at, of(2, 42)}, {2, clock, 41}}, []api.Access{load(clock, 40), store(at, 5, asks), add(clock, 41), vain(at, of(2, 42)), load(at, of(2, 42))}, 40, nil},
		{"just behind 3", []change{{3, at, of(2, 43)}}, []api.Access{load(clock, 40), store(at, 5, asks), add(clock, 40), vain(at, of(2, 43)), load(at, of(2, 43))}, 41, nil},
		{"the first version of all", []change{{3, at, of(2, 2)}}, []api.Access{load(clock, 40), store(at, 5, asks), add(clock, 40), vain(at, of(2, 2)), load(at, of(2, 2))}, 0, nil},
		{"the Psa is another one behind 4", []change{{4, at, of(2, 12)}}, []api.Access{load(clock, 40), store(at, 5, asks), add(clock, 40), swap(at, asks, of(2, 42)), load(at, of(2, 12))}, 10, nil},
		{"behind the end", []change{{5, at, of(2, 12)}}, whole, 40, nil},
		{"the Psa is of a later sequence ahead of 2", []change{{1, at, of(3, 9)}}, []api.Access{load(clock, 40), store(at, of(3, 9), asks), add(clock, 40), swap(at, asks, of(2, 42)), load(at, of(2, 42))}, 40, nil},
		{"behind 2", []change{{2, at, of(3, 9)}}, []api.Access{load(clock, 40), store(at, 5, asks), add(clock, 40), vain(at, of(3, 9)), load(at, of(3, 9))}, 7, nil},
		{"behind 3", []change{{3, at, of(3, 9)}}, []api.Access{load(clock, 40), store(at, 5, asks), add(clock, 40), vain(at, of(3, 9)), load(at, of(3, 9))}, 7, nil},
		{"behind 4", []change{{4, at, of(3, 9)}}, []api.Access{load(clock, 40), store(at, 5, asks), add(clock, 40), swap(at, asks, of(2, 42)), load(at, of(3, 9))}, 7, nil},
		{"of a later one that has no version yet", []change{{3, at, of(3, 1)}}, []api.Access{load(clock, 40), store(at, 5, asks), add(clock, 40), vain(at, of(3, 1)), load(at, of(3, 1))}, -1, nil},
		{"of one that is over", []change{{3, at, of(3, 0)}}, []api.Access{load(clock, 40), store(at, 5, asks), add(clock, 40), vain(at, of(3, 0)), load(at, of(3, 0))}, -2, nil},
		{"of an earlier one", []change{{3, at, of(1, 1)}}, []api.Access{load(clock, 40), store(at, 5, asks), add(clock, 40), vain(at, of(1, 1)), load(at, of(1, 1))}, -1, nil},
		{"given and asked for again", []change{{2, at, of(2, 9)}, {3, at, asks}}, whole, 40, nil},
		{"the other thread's Psa", []change{{2, psa(0), asks}, {3, psa(0), of(2, 9)}}, whole, 40, nil},
	} {
		k := New(two(), 1, 2)
		if got := amid(t, k, laid(t, two(), 40, 1, 5), x.changes...); !slices.Equal(got, x.want) {
			t.Errorf("P13.1: %s: %v, not %v", x.what, got, x.want)
		}
		is(t, "P13.1: "+x.what, k, x.version, x.err)
	}
}

// memory: what lines asks, of words that others change ahead of its accesses.
type memory struct {
	words   *arena.Arena
	changes []change
	done    []api.Access
}

// word at that place, at this access.
func (m *memory) word(at int) int {
	do(m.words, m.changes, len(m.done))
	return m.words.Peek(at)
}

func (m *memory) did(x api.Access) {
	m.words.Poke(x.At, x.New)
	m.done = append(m.done, x)
}

func (m *memory) load(at int) int {
	was := m.word(at)
	m.did(load(at, was))
	return was
}

func (m *memory) store(at, word int) { m.did(store(at, m.word(at), word)) }

func (m *memory) add(at int) int {
	was := m.word(at)
	m.did(add(at, was))
	return was
}

func (m *memory) swap(at, old, word int) {
	if was := m.word(at); was != old {
		m.did(vain(at, was))
		return
	}
	m.did(swap(at, old, word))
}

// lines: P13.1's, told once more.
func lines(c api.Conf, thread, seq int, m *memory) (int, error) {
	if m.load(clock) >= c.Versions {
		return 0, api.ErrVersion
	}
	at, asks := psa(thread), of(seq, 1)
	m.store(at, asks)
	v := m.add(clock)
	m.swap(at, asks, of(seq, min(v+2, mostPart)))
	return m.load(at)%(1<<24) - 2, nil
}

func followsLines(t *testing.T, c api.Conf, thread, seq int, a *arena.Arena, changes ...change) {
	t.Helper()
	m := &memory{words: a.Copy(), changes: changes}
	version, err := lines(c, thread, seq, m)
	k := New(c, thread, seq)
	what := fmt.Sprintf("P13.1: thread %d, sequence %d amid %v", thread, seq, changes)
	if got := amid(t, k, a, changes...); !slices.Equal(got, m.done) {
		t.Errorf("%s: %v, not %v", what, got, m.done)
	}
	is(t, what, k, version, err)
}

// TestEachChange: of each word, between any two steps, ahead of and behind them all; then of two.
func TestEachChange(t *testing.T) {
	values := []int{0, 1, 2, 39, 42, 99, 100, 101, of(1, 1), of(2, 0), of(2, 1), of(2, 2), of(2, 42), of(3, 0), of(3, 1), of(3, 42)}
	for behind := range 6 {
		for at := range 20 {
			for _, word := range values {
				followsLines(t, two(), 1, 2, laid(t, two(), 40, 1, 5), change{behind, at, word})
			}
		}
	}
	for one := range 6 * len(values) {
		for other := range 6 * len(values) {
			changes := []change{{one % 6, psa(1), values[one/6]}, {other % 6, clock, values[other/6] % 200}}
			followsLines(t, two(), 1, 2, laid(t, two(), 40, 1, 5), changes...)
		}
	}
}

// drawer: numbers by rule, from 0 on, below what is asked.
func drawer(seed int) func(below int) int {
	n := seed
	return func(below int) int {
		n = (n*1103515245 + 12345) % (1 << 31)
		return n >> 8 % below
	}
}

// TestDrawnWords: drawn arenas, and changes of many words.
func TestDrawnWords(t *testing.T) {
	draw, ends := drawer(2), map[error]int{}
	for range 6000 {
		c := eight()
		c.Versions = 1 + draw(30)
		thread, seq := draw(8), 1+draw(5)
		a := laid(t, c, draw(33), thread, of(draw(5), draw(30)))
		changes := make([]change, draw(12))
		for i := range changes {
			changes[i] = change{draw(6), psa(draw(8)), of(draw(7), draw(4)*draw(12))}
			switch draw(3) {
			case 0:
				changes[i].at, changes[i].word = clock, draw(33)
			case 1:
				changes[i].at = psa(thread)
			}
		}
		_, err := lines(c, thread, seq, &memory{words: a.Copy(), changes: changes})
		ends[err]++
		followsLines(t, c, thread, seq, a, changes...)
	}
	if ends[nil] < 1000 || ends[api.ErrVersion] < 1000 {
		t.Errorf("drawn ends: %v", ends)
	}
}

// running: a claim that is under way, and what it does.
type running struct {
	*Claim
	thread, seq int
	done        []api.Access
	over        bool
}

func begun(c api.Conf, thread, seq int) *running {
	return &running{Claim: New(c, thread, seq), thread: thread, seq: seq}
}

func (r *running) turn(t *testing.T, a *arena.Arena) {
	t.Helper()
	if r.over {
		behind(t, r.Claim, a)
		return
	}
	var x api.Access
	x, r.over = step(t, r.Claim, a)
	r.done = append(r.done, x)
}

// TestClaimsAtTheSameTime: of all threads in one arena, however they go: each one does its lines, and each has a version of its own, the one that it counted.
func TestClaimsAtTheSameTime(t *testing.T) {
	draw, mixed := drawer(3), 0
	for range 400 {
		a := made(t, eight())
		start := draw(90)
		a.Poke(clock, start)
		var l []*running
		for thread := range 8 {
			l = append(l, begun(eight(), thread, 1+draw(3)))
		}
		order := takeTurns(t, draw, l, a)
		if !slices.IsSorted(order) {
			mixed++
		}
		var versions []int
		for _, r := range l {
			now, counted, asks := r.done[0].Old, r.done[2].Old, of(r.seq, 1)
			has, at := of(r.seq, counted+2), psa(r.thread)
			want := []api.Access{load(clock, now), store(at, 0, asks), add(clock, counted), swap(at, asks, has), load(at, has)}
			if !slices.Equal(r.done, want) || now < start || now > counted {
				t.Errorf("P13.1: thread %d among others: %v, not %v", r.thread, r.done, want)
			}
			is(t, "P13.1: among others", r.Claim, counted, nil)
			versions = append(versions, counted-start)
		}
		if slices.Sort(versions); !slices.Equal(versions, []int{0, 1, 2, 3, 4, 5, 6, 7}) {
			t.Errorf("P13.1: versions from %d on: %v", start, versions)
		}
	}
	if mixed < 300 {
		t.Errorf("%d orders are mixed", mixed)
	}
}

// takeTurns: until all have ended; whose the turns were.
func takeTurns(t *testing.T, draw func(int) int, l []*running, a *arena.Arena) []int {
	t.Helper()
	var order []int
	for slices.ContainsFunc(l, func(r *running) bool { return !r.over }) {
		i := draw(len(l))
		if !l[i].over {
			order = append(order, i)
		}
		l[i].turn(t, a)
	}
	return order
}

// TestEachOrderOfTwo: of two threads, of five steps each; and where one version is left, or none.
func TestEachOrderOfTwo(t *testing.T) {
	for _, now := range []int{0, 40, 98, 99, 100} {
		for bits := range 1 << 10 {
			a := laid(t, two(), now, 0, 5)
			one, other := begun(two(), 0, 2), begun(two(), 1, 1)
			var counted []int
			for i := range 20 {
				r := one
				if bits>>(i%10)&1 == 1 == (i < 10) { // behind ten steps the other way round, so that both end
					r = other
				}
				if len(r.done) == 2 && !r.over {
					counted = append(counted, a.Peek(clock))
				}
				r.turn(t, a)
			}
			eachCounted(t, now, counted, one, other)
		}
	}
}

// eachCounted: those that found a version left have those that were counted, each its own; the other ones none.
func eachCounted(t *testing.T, now int, counted []int, l ...*running) {
	t.Helper()
	for i, version := range counted {
		if version != now+i {
			t.Errorf("P13.1: from %d on, behind %d that are counted: %d", now, i, version)
		}
	}
	for _, r := range l {
		if r.done[0].Old >= 100 {
			is(t, "P13.1: none left", r.Claim, 0, api.ErrVersion)
			if len(r.done) != 1 {
				t.Errorf("P13.1: none left: %v", r.done)
			}
			continue
		}
		if !r.over || len(r.done) != 5 {
			t.Fatalf("P13.1: it hasn't ended: %v", r.done)
		}
		is(t, "P13.1: two", r.Claim, r.done[2].Old, nil)
	}
}

// TestTheLastVersion: whoever found one left has one, though others count meanwhile.
func TestTheLastVersion(t *testing.T) {
	a := made(t, eight())
	a.Poke(clock, 99)
	var l []*running
	for thread := range 8 {
		r := begun(eight(), thread, 1)
		r.turn(t, a)
		l = append(l, r)
	}
	for i, r := range l {
		for !r.over {
			r.turn(t, a)
		}
		is(t, "P13.1: the last version", r.Claim, 99+i, nil)
	}
	tells(t, "P13.1: behind the last version", eight(), a, 3, 2, 0, api.ErrVersion, []api.Access{load(clock, 107)})
}

// TestAnArenaIsNotKept: each step asks the one that it is handed.
func TestAnArenaIsNotKept(t *testing.T) {
	k := New(two(), 1, 2)
	var got []api.Access
	for i, over := 0, false; !over; i++ {
		a := laid(t, two(), 40+i, 1, of(2, 1))
		var x api.Access
		x, over = step(t, k, a)
		got = append(got, x)
		for at := range a.Len() {
			a.Poke(at, 1)
		}
	}
	at, asks := psa(1), of(2, 1)
	want := []api.Access{load(clock, 40), store(at, asks, asks), add(clock, 42), swap(at, asks, of(2, 44)), load(at, asks)}
	if !slices.Equal(got, want) {
		t.Errorf("P13.1: of many arenas: %v, not %v", got, want)
	}
	is(t, "P13.1: of many arenas", k, -1, nil)
}

// P13.2: whoever helps, there is one version

// helper: it gives a scan that has begun its version, as whoever wants to know the versions of scans does; version -1: it hasn't met any.
type helper struct{ thread, line, saw, version int }

// next does one access of its; true behind the last one.
func (h *helper) next(a *arena.Arena) bool {
	at := psa(h.thread)
	switch h.line {
	case 0:
		h.saw = a.Load(at)
		if part := h.saw % (1 << 24); part != 1 {
			h.meets(h.saw)
			return true
		}
	case 1:
		h.version = a.Add(clock, 1)
	case 2:
		a.Swap(at, h.saw, h.saw+1+h.version)
		h.version = -1
	case 3:
		if word := a.Load(at); word>>24 == h.saw>>24 {
			h.meets(word)
		}
		return true
	}
	h.line++
	return false
}

func (h *helper) meets(word int) {
	if part := word % (1 << 24); part > 1 {
		h.version = part - 2
	}
}

// TestEachOrderWithAHelper: of the claim's five steps and the helper's four: who was met in this sequence has the claim's version, and it is the Psa's.
func TestEachOrderWithAHelper(t *testing.T) {
	helped := 0
	for _, was := range []int{0, of(1, 0), of(1, 9)} {
		for bits := range 1 << 9 {
			a := laid(t, two(), 40, 1, was)
			r, h, over := begun(two(), 1, 2), &helper{thread: 1, version: -1}, false
			for i := range 18 {
				if bits>>(i%9)&1 == 1 == (i < 9) { // behind nine steps the other way round, so that both end
					r.turn(t, a)
				} else if !over {
					over = h.next(a)
				}
			}
			if oneVersion(t, a, r, []*helper{h}); !r.done[3].Ok {
				helped++
			}
		}
	}
	if helped < 20 {
		t.Errorf("P13.2: %d are helped", helped)
	}
}

// oneVersion: the claim's is the Psa's, is one that was counted during it, and is what each helper that met it was told.
func oneVersion(t *testing.T, a *arena.Arena, r *running, helpers []*helper) {
	t.Helper()
	if !r.over || len(r.done) != 5 {
		t.Fatalf("P13.2: it hasn't ended: %v", r.done)
	}
	version, err := r.Version()
	if word := a.Peek(psa(r.thread)); err != nil || word != of(r.seq, version+2) {
		t.Errorf("P13.2: version %d, %v; the Psa is %d", version, err, word)
	}
	if version < r.done[0].Old || version >= a.Peek(clock) {
		t.Errorf("P13.2: version %d of a clock from %d on to %d", version, r.done[0].Old, a.Peek(clock))
	}
	if r.done[3].Ok && version != r.done[2].Old {
		t.Errorf("P13.2: version %d, it counted %d", version, r.done[2].Old)
	}
	for _, h := range helpers {
		if h.saw>>24 == r.seq && h.version != version {
			t.Errorf("P13.2: version %d, one that helped met %d", version, h.version)
		}
	}
}

// TestManyHelpers: of all threads, with claims of others at the same time.
func TestManyHelpers(t *testing.T) {
	draw, helped, own := drawer(4), 0, 0
	for range 1500 {
		a := made(t, eight())
		a.Poke(clock, draw(50))
		claims := []*running{begun(eight(), 2, 1), begun(eight(), 7, 3)}
		byThread := map[int][]*helper{}
		var helpers []*helper
		for i := range 6 {
			h := &helper{thread: claims[i%2].thread, version: -1}
			helpers, byThread[h.thread] = append(helpers, h), append(byThread[h.thread], h)
		}
		ended := make([]bool, len(helpers))
		for !claims[0].over || !claims[1].over || slices.Contains(ended, false) {
			switch i := draw(len(helpers) + 2); {
			case i >= len(helpers):
				claims[i-len(helpers)].turn(t, a)
			case !ended[i]:
				ended[i] = helpers[i].next(a)
			}
		}
		for _, r := range claims {
			oneVersion(t, a, r, byThread[r.thread])
			if r.done[3].Ok {
				own++
			} else {
				helped++
			}
		}
	}
	if helped < 300 || own < 300 {
		t.Errorf("P13.2: %d are helped, %d have their own", helped, own)
	}
}

// TestAHelperThatIsLate: it has counted, and swaps when the claim has ended, or when the thread's next one has begun: nothing of theirs changes.
func TestAHelperThatIsLate(t *testing.T) {
	for steps := range 6 {
		a := made(t, two())
		h, one, other := &helper{thread: 1, version: -1}, begun(two(), 1, 1), begun(two(), 1, 2)
		one.turn(t, a)
		one.turn(t, a)
		h.next(a)
		h.next(a)
		for !one.over {
			one.turn(t, a)
		}
		is(t, "P13.2: ahead of the late one", one.Claim, 1, nil)
		for range steps {
			other.turn(t, a)
		}
		was := words(a)
		if h.next(a); !slices.Equal(words(a), was) {
			t.Errorf("P13.2: behind %d steps of the next one a late swap is done: %+v", steps, a.Last())
		}
		h.next(a)
		for !other.over {
			other.turn(t, a)
		}
		is(t, "P13.2: of the earlier one", one.Claim, 1, nil)
		is(t, "P13.2: of the next one", other.Claim, 2, nil)
	}
}

// Wrong inputs

// TestAnyInputs: of these nothing is promised but that no call panics, and that a step is one access at most.
func TestAnyInputs(t *testing.T) {
	bad := []api.Conf{{}, {Threads: -1, Cap: -1, Words: -1, Versions: -1}, {Threads: math.MaxInt, Cap: math.MaxInt, Versions: math.MaxInt}, {Threads: math.MinInt, Versions: math.MinInt}, two()}
	numbers := append(noNumbers(), 0, 1, 2, 8, math.MaxInt)
	for _, c := range bad {
		for _, thread := range numbers {
			for _, seq := range numbers {
				for _, word := range numbers {
					a := arena.New(20)
					for at := range a.Len() {
						a.Poke(at, word)
					}
					anySteps(t, New(c, thread, seq), a)
				}
				anySteps(t, New(c, thread, seq), arena.New(-1))
			}
		}
	}
	anySteps(t, new(Claim), arena.New(20))
}

func anySteps(t *testing.T, k *Claim, a *arena.Arena) {
	t.Helper()
	for i := range 7 {
		n, was := a.Accesses(), words(a)
		over := k.Step(a)
		if a.Accesses() > n+1 || !over && a.Accesses() == n || i > 4 && (!over || a.Accesses() != n || !slices.Equal(words(a), was)) {
			t.Fatalf("P13.1: %+v: ended %v, %d accesses", k, over, a.Accesses()-n)
		}
		if version, err := k.Version(); (!over || err != nil) && version != 0 || !over && err != nil {
			t.Fatalf("P13.1: %+v: ended %v, version %d, %v", k, over, version, err)
		}
	}
}
