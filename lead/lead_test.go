package lead

import (
	"fmt"
	"math"
	"math/bits"
	"slices"
	"testing"

	"armillary/api"
	"armillary/arena"
	"armillary/place"
)

// two threads, chunks of four cells, of 19 words each: at 16, 35, 54 and so on. A chunk's FNext lies 2 behind its place, its FLead 3, its FMate 4.
func two() api.Conf { return api.Conf{Threads: 2, Cap: 4, Words: 112, Versions: 100} }

const (
	one   = 16
	other = 35
	third = 54
)

// confs: each number of threads, each number of cells that may be.
func confs() []api.Conf {
	var l []api.Conf
	for threads := 1; threads <= api.MaxThreads; threads++ {
		for cells := threads + 2; cells <= api.MaxCap; cells++ {
			l = append(l, api.Conf{Threads: threads, Cap: cells, Words: 130, Versions: 1})
		}
	}
	return l
}

// first: where the document lays the first chunk.
func first(c api.Conf) int { return 3 + c.Threads + 4 + 7 }

// noNumbers: of places and words, those that are none.
func noNumbers() []int {
	return []int{math.MinInt, math.MinInt + 1, -1 << 62, -1 << 40, -20000, -64, -17, -7, -3, -2, -1, 20000, 20001, 1 << 40, 1 << 62, math.MaxInt - 6, math.MaxInt - 2, math.MaxInt - 1, math.MaxInt}
}

func draws() []bool { return []bool{false, true} }

func made(t *testing.T, c api.Conf) *arena.Arena {
	t.Helper()
	a, err := place.Make(c)
	if err != nil {
		t.Fatalf("P3.2: Make of %+v: %v", c, err)
	}
	return a
}

// junk: an arena whose every word is another one, and that has some accesses behind it.
func junk(t *testing.T, c api.Conf) *arena.Arena {
	t.Helper()
	a := made(t, c)
	a.Store(0, 5)
	a.Swap(0, 5, 6)
	for at := range a.Len() {
		a.Poke(at, 1000+at)
	}
	return a
}

// lay a chunk's FNext, FLead, FMate.
func lay(a *arena.Arena, chunk, next, lead, mate int) {
	a.Poke(chunk+2, next)
	a.Poke(chunk+3, lead)
	a.Poke(chunk+4, mate)
}

// chain: such an arena, with so many chunks, from the one at 16 on, one behind the other; nobody leads one.
func chain(t *testing.T, chunks int) *arena.Arena {
	t.Helper()
	a := junk(t, two())
	for i := range chunks {
		next := 2 * (one + 19*(i+1))
		if i == chunks-1 {
			next = 0
		}
		lay(a, one+19*i, next, 0, 0)
	}
	return a
}

func load(at, word int) api.Access { return api.Access{Kind: api.KLoad, At: at, Old: word, New: word} }

// swap: one that is done; vain: one that found that word.
func swap(at, old, word int) api.Access {
	return api.Access{Kind: api.KSwap, At: at, Old: old, New: word, Ok: true}
}

func vain(at, word int) api.Access {
	return api.Access{Kind: api.KSwap, At: at, Old: word, New: word}
}

// asked: what a lead is made of.
type asked struct {
	chunk int
	draw  bool
}

func (x asked) lead() *Lead { return New(two(), x.chunk, x.draw) }

// outcome: what a lead tells at its end.
type outcome struct{ leader, mate, behind int }

// told: what it tells, as often as it is asked.
func told(t *testing.T, l *Lead) (outcome, bool) {
	t.Helper()
	leader, mate, behind := l.Chunks()
	x, drew := outcome{leader, mate, behind}, l.Drew()
	for range 2 {
		leader, mate, behind = l.Chunks()
		if y := (outcome{leader, mate, behind}); y != x || l.Drew() != drew {
			t.Errorf("P16.1: asked again: %v, %v, not %v, %v", y, l.Drew(), x, drew)
		}
	}
	return x, drew
}

func words(a *arena.Arena) []int {
	l := make([]int, a.Len())
	for at := range l {
		l[at] = a.Peek(at)
	}
	return l
}

// step: one that isn't behind the end: its access, and whether it has ended. It is one access, and changes no word but the one that it tells.
func step(t *testing.T, l *Lead, a *arena.Arena) (api.Access, bool) {
	t.Helper()
	want, n := words(a), a.Accesses()
	over := l.Step(a)
	last := a.Last()
	if a.Accesses() != n+1 {
		t.Fatalf("P16.1: a step of %d accesses, the last one %+v", a.Accesses()-n, last)
	}
	if last.At >= 0 && last.At < len(want) {
		want[last.At] = last.New
	}
	if !slices.Equal(words(a), want) {
		t.Fatalf("P16.1: %+v changes another word", last)
	}
	return last, over
}

// behind its end: no access, nothing changed, true, whatever the words are by now.
func behind(t *testing.T, l *Lead, a *arena.Arena) {
	t.Helper()
	want, drew := told(t, l)
	odd, zero := a.Copy(), a.Copy()
	for at := range a.Len() {
		odd.Poke(at, 1)
		zero.Poke(at, 0)
	}
	for _, b := range []*arena.Arena{a, a, odd, zero, arena.New(1), a} {
		was, n, last := words(b), b.Accesses(), b.Last()
		if !l.Step(b) {
			t.Error("P16.1: behind its end Step tells false")
		}
		if b.Accesses() != n || b.Last() != last || !slices.Equal(words(b), was) {
			t.Errorf("P16.1: behind its end Step does something: %+v", b.Last())
		}
		if got, d := told(t, l); got != want || d != drew {
			t.Errorf("P16.1: behind its end: %v, %v, not %v, %v", got, d, want, drew)
		}
	}
}

// script: P16.1's lines, told once more, each access by the word that it found; over, once they have ended.
type script struct {
	room  int // words that are there
	found []int
	done  []api.Access
	drew  bool
	over  bool
	ends  outcome
}

// noMore words have been found.
type noMore struct{}

func lines(x asked, room int, found []int) (s *script) {
	s = &script{room: room, found: found}
	defer func() {
		if r := recover(); r != nil && r != (noMore{}) {
			panic(r)
		}
	}()
	s.ends = s.lead(x)
	s.over = true
	return s
}

func (s *script) lead(x asked) outcome {
	s.swap(x.chunk+3, 0, x.chunk)
	l := s.load(x.chunk + 3)
	n := s.marked(l + 2)
	m := s.load(l + 4)
	if m == 0 {
		choice := 1
		if x.draw && n != 0 {
			choice = n
		}
		s.swap(l+4, 0, choice)
		s.drew = true
		m = s.load(l + 4)
	}
	if m == 1 || n == 0 {
		return outcome{l, 0, n}
	}
	s.swap(n+3, 0, l)
	if s.load(n+3) != l {
		return outcome{l, 0, n}
	}
	return outcome{l, n, s.marked(n + 2)}
}

// marked: where that next leads, once it is marked.
func (s *script) marked(at int) int {
	for {
		w := s.load(at)
		if w%2 != 0 {
			return int(uint64(w) >> 1)
		}
		s.swap(at, w, w+1)
	}
}

// next word that was found, at that place; 0, if it isn't there.
func (s *script) next(at int) (int, bool) {
	if len(s.done) == len(s.found) {
		panic(noMore{})
	}
	if at < 0 || at >= s.room {
		return 0, false
	}
	return s.found[len(s.done)], true
}

func (s *script) load(at int) int {
	word, _ := s.next(at)
	s.done = append(s.done, load(at, word))
	return word
}

func (s *script) swap(at, old, word int) {
	was, there := s.next(at)
	if !there || was != old {
		s.done = append(s.done, vain(at, was))
		return
	}
	s.done = append(s.done, swap(at, old, word))
}

// running: a lead that is under way, and what it did.
type running struct {
	*Lead
	asked asked
	done  []api.Access
	over  bool
}

func begun(x asked) *running { return &running{Lead: x.lead(), asked: x} }

// turn: its next step, or one behind its end. By the words that it found, it does what the lines say, and tells what they say, however the others go.
func (r *running) turn(t *testing.T, a *arena.Arena) {
	t.Helper()
	if r.over {
		behind(t, r.Lead, a)
		return
	}
	var x api.Access
	x, r.over = step(t, r.Lead, a)
	r.done = append(r.done, x)
	r.follows(t, a.Len())
}

func (r *running) follows(t *testing.T, room int) {
	t.Helper()
	var found []int
	for _, x := range r.done {
		found = append(found, x.Old)
	}
	s := lines(r.asked, room, found)
	ends, drew := told(t, r.Lead)
	if !slices.Equal(r.done, s.done) || r.over != s.over {
		t.Fatalf("P16.1: %+v: %v, ended %v, not %v, %v", r.asked, r.done, r.over, s.done, s.over)
	}
	if ends != s.ends || drew != s.drew {
		t.Fatalf("P16.1: %+v: %v, drew %v, not %v, %v, behind %v", r.asked, ends, drew, s.ends, s.drew, r.done)
	}
}

// most steps that anything here takes, but where a next isn't there, so that it is never marked.
const most = 40

// goesOn: it hasn't ended, and needn't: it is at a next that isn't there.
func (r *running) goesOn(t *testing.T, room int) bool {
	t.Helper()
	if len(r.done) < most {
		return !r.over
	}
	if at := r.done[most-1].At; !r.over && at >= 0 && at < room {
		t.Fatalf("P16.1: %+v doesn't end behind %v", r.asked, r.done)
	}
	return false
}

func (r *running) toItsEnd(t *testing.T, a *arena.Arena) {
	t.Helper()
	for r.goesOn(t, a.Len()) {
		r.turn(t, a)
	}
}

// ends: what it tells.
func (r *running) ends() outcome {
	leader, mate, behind := r.Chunks()
	return outcome{leader, mate, behind}
}

// alone: all of a lead, if nobody else does anything.
func alone(t *testing.T, x asked, a *arena.Arena) *running {
	t.Helper()
	return amid(t, x, a)
}

// change: between this step (of so many that are behind it) and the next one, by others.
type change struct{ behind, at, word int }

func do(a *arena.Arena, changes []change, behind int) {
	for _, x := range changes {
		if x.behind == behind {
			a.Poke(x.at, x.word)
		}
	}
}

// amid: all of a lead, while a is changed, also behind the end.
func amid(t *testing.T, x asked, a *arena.Arena, changes ...change) *running {
	t.Helper()
	r := begun(x)
	if got, drew := told(t, r.Lead); got != (outcome{}) || drew {
		t.Errorf("P16.1: ahead of its first step: %v, %v", got, drew)
	}
	for r.goesOn(t, a.Len()) {
		do(a, changes, len(r.done))
		r.turn(t, a)
	}
	do(a, changes, len(r.done))
	if r.over {
		behind(t, r.Lead, a)
	}
	r.follows(t, a.Len())
	return r
}

// tells this outcome, and whether it drew, by these accesses; likewise when it is asked again, as it was.
func tells(t *testing.T, what string, x asked, a *arena.Arena, want outcome, drew bool, accesses ...api.Access) {
	t.Helper()
	for range 2 {
		r := alone(t, x, a.Copy())
		if !slices.Equal(r.done, accesses) {
			t.Errorf("%s: %+v: %v, not %v", what, x, r.done, accesses)
		}
		if got := r.ends(); got != want || r.Drew() != drew {
			t.Errorf("%s: %+v: %v, drew %v, not %v, %v", what, x, got, r.Drew(), want, drew)
		}
	}
}

// P16.1: the lines

func TestANewArena(t *testing.T) {
	for _, c := range confs() {
		for _, draw := range draws() {
			x := first(c)
			want := []api.Access{
				swap(x+3, 0, x), load(x+3, x), load(x+2, 0), swap(x+2, 0, 1), load(x+2, 1),
				load(x+4, 0), swap(x+4, 0, 1), load(x+4, 1),
			}
			tells(t, fmt.Sprintf("P16.1: %+v", c), asked{x, draw}, made(t, c), outcome{x, 0, 0}, true, want...)
		}
	}
}

// TestWordByWord: all eleven lines, in numbers.
func TestWordByWord(t *testing.T) {
	a := made(t, two())
	a.Poke(18, 70)
	a.Poke(37, 108)
	want := []api.Access{
		{Kind: api.KSwap, At: 19, Old: 0, New: 16, Ok: true},
		{Kind: api.KLoad, At: 19, Old: 16, New: 16},
		{Kind: api.KLoad, At: 18, Old: 70, New: 70},
		{Kind: api.KSwap, At: 18, Old: 70, New: 71, Ok: true},
		{Kind: api.KLoad, At: 18, Old: 71, New: 71},
		{Kind: api.KLoad, At: 20, Old: 0, New: 0},
		{Kind: api.KSwap, At: 20, Old: 0, New: 35, Ok: true},
		{Kind: api.KLoad, At: 20, Old: 35, New: 35},
		{Kind: api.KSwap, At: 38, Old: 0, New: 16, Ok: true},
		{Kind: api.KLoad, At: 38, Old: 16, New: 16},
		{Kind: api.KLoad, At: 37, Old: 108, New: 108},
		{Kind: api.KSwap, At: 37, Old: 108, New: 109, Ok: true},
		{Kind: api.KLoad, At: 37, Old: 109, New: 109},
	}
	tells(t, "P16.1: word by word", asked{16, true}, a, outcome{16, 35, 54}, true, want...)
}

// TestAChain: each chunk of it, with each draw.
func TestAChain(t *testing.T) {
	for chunks := 1; chunks <= 5; chunks++ {
		for i := range chunks {
			x := one + 19*i
			next, behind := x+19, x+38
			if i >= chunks-1 {
				next = 0
			}
			if i >= chunks-2 {
				behind = 0
			}
			begin := []api.Access{
				swap(x+3, 0, x), load(x+3, x), load(x+2, 2*next), swap(x+2, 2*next, 2*next+1), load(x+2, 2*next+1), load(x+4, 0),
			}
			nobody := slices.Concat(begin, []api.Access{swap(x+4, 0, 1), load(x+4, 1)})
			what := fmt.Sprintf("P16.1: chunk %d of %d", i, chunks)
			tells(t, what, asked{x, false}, chain(t, chunks), outcome{x, 0, next}, true, nobody...)
			if next == 0 {
				tells(t, what, asked{x, true}, chain(t, chunks), outcome{x, 0, 0}, true, nobody...)
				continue
			}
			both := slices.Concat(begin, []api.Access{
				swap(x+4, 0, next), load(x+4, next), swap(next+3, 0, x), load(next+3, x),
				load(next+2, 2*behind), swap(next+2, 2*behind, 2*behind+1), load(next+2, 2*behind+1),
			})
			tells(t, what, asked{x, true}, chain(t, chunks), outcome{x, next, behind}, true, both...)
		}
	}
}

// TestWhoLeads: a chunk that leads itself already, and one that any other chunk leads: the lines go on with that one, and its own next and mate aren't asked.
func TestWhoLeads(t *testing.T) {
	for _, draw := range draws() {
		for _, own := range [][2]int{{0, 0}, {2 * third, 0}, {2*third + 1, 1}, {2*one + 1, third}} {
			a := chain(t, 3)
			lay(a, other, own[0], one, own[1])
			begin := []api.Access{vain(38, 16), load(38, 16), load(18, 70), swap(18, 70, 71), load(18, 71), load(20, 0)}
			if !draw {
				tells(t, "P16.1: another one leads", asked{other, draw}, a, outcome{16, 0, 35}, true,
					append(begin, swap(20, 0, 1), load(20, 1))...)
				continue
			}
			want := append(begin, swap(20, 0, 35), load(20, 35), vain(38, 16), load(38, 16))
			if own[0]%2 == 0 {
				want = append(want, load(37, own[0]), swap(37, own[0], own[0]+1))
			}
			w := own[0]/2*2 + 1
			tells(t, "P16.1: another one leads", asked{other, draw}, a, outcome{16, 35, w / 2}, true, append(want, load(37, w))...)
		}
		a := chain(t, 3)
		lay(a, other, 2*third, other, 0)
		a.Poke(39, 1)
		tells(t, "P16.1: it leads itself", asked{other, draw}, a, outcome{35, 0, 54}, false,
			vain(38, 35), load(38, 35), load(37, 108), swap(37, 108, 109), load(37, 109), load(39, 1))
		lay(a, one, 2*other, 73, 0)
		lay(a, 73, 2*92+1, 9, 1)
		tells(t, "P16.1: one that isn't its neighbour leads", asked{one, draw}, a, outcome{73, 0, 92}, false,
			vain(19, 73), load(19, 73), load(75, 185), load(77, 1))
	}
}

// TestNexts: marked already, and not, wherever they lead.
func TestNexts(t *testing.T) {
	for _, next := range []int{0, 1, 2, 7, 15, 16, 34, 35, 54, 92, 10000, 19999, 1 << 20, 1 << 30, 1 << 40, math.MaxInt / 2} {
		a := chain(t, 2)
		a.Poke(18, 2*next)
		tells(t, fmt.Sprint("P16.1: next ", next), asked{one, false}, a, outcome{16, 0, next}, true,
			swap(19, 0, 16), load(19, 16), load(18, 2*next), swap(18, 2*next, 2*next+1), load(18, 2*next+1), load(20, 0), swap(20, 0, 1), load(20, 1))
		a.Poke(18, 2*next+1)
		tells(t, fmt.Sprint("P16.1: marked next ", next), asked{one, false}, a, outcome{16, 0, next}, true,
			swap(19, 0, 16), load(19, 16), load(18, 2*next+1), load(20, 0), swap(20, 0, 1), load(20, 1))
		a.Poke(20, 1)
		tells(t, fmt.Sprint("P16.1: marked next, nobody ", next), asked{one, true}, a, outcome{16, 0, next}, false,
			swap(19, 0, 16), load(19, 16), load(18, 2*next+1), load(20, 1))
	}
}

// TestMates: 1 is nobody; each other one is as good, as it is the next chunk that is led.
func TestMates(t *testing.T) {
	begin := []api.Access{swap(19, 0, 16), load(19, 16), load(18, 71)}
	for _, draw := range draws() {
		for _, mate := range append(noNumbers(), 2, 3, 16, 34, 35, 36, 54) {
			a := chain(t, 3)
			lay(a, one, 71, 0, mate)
			tells(t, fmt.Sprint("P16.1: mate ", mate), asked{one, draw}, a, outcome{16, 35, 54}, false,
				append(begin, load(20, mate), swap(38, 0, 16), load(38, 16), load(37, 108), swap(37, 108, 109), load(37, 109))...)
			lay(a, one, 1, 0, mate)
			tells(t, fmt.Sprint("P16.1: no next chunk, mate ", mate), asked{one, draw}, a, outcome{16, 0, 0}, false,
				swap(19, 0, 16), load(19, 16), load(18, 1), load(20, mate))
		}
		a := chain(t, 3)
		lay(a, one, 71, 0, 1)
		tells(t, "P16.1: nobody", asked{one, draw}, a, outcome{16, 0, 35}, false, append(begin, load(20, 1))...)
		lay(a, one, 1, 16, 0)
		tells(t, "P16.1: a draw without a next chunk", asked{one, draw}, a, outcome{16, 0, 0}, true,
			vain(19, 16), load(19, 16), load(18, 1), load(20, 0), swap(20, 0, 1), load(20, 1))
	}
}

// TestWhoLeadsTheNext: the one that leads, or any other one: then it is alone, and the next one stays as it is.
func TestWhoLeadsTheNext(t *testing.T) {
	begin := []api.Access{swap(19, 0, 16), load(19, 16), load(18, 71), load(20, 0), swap(20, 0, 35), load(20, 35)}
	for _, lead := range append(noNumbers(), 1, 2, 15, 17, 35, 54) {
		for _, next := range []int{0, 1, 108, 109} {
			a := chain(t, 3)
			lay(a, one, 71, 0, 0)
			lay(a, other, next, lead, 1)
			tells(t, fmt.Sprintf("P16.1: %d leads the next one", lead), asked{one, true}, a, outcome{16, 0, 35}, true,
				append(begin, vain(38, lead), load(38, lead))...)
		}
	}
	for _, next := range []int{0, 2, 32, 108, 200, 1 << 31, 1 << 41, math.MaxInt - 1} {
		for _, lead := range []int{0, 16} {
			a := chain(t, 3)
			lay(a, one, 71, 0, 0)
			lay(a, other, next, lead, 1)
			want := append(begin, vain(38, 16), load(38, 16))
			if lead == 0 {
				want = append(begin, swap(38, 0, 16), load(38, 16))
			}
			tells(t, fmt.Sprintf("P16.1: it leads the next one, whose next is %d", next), asked{one, true}, a, outcome{16, 35, next / 2}, true,
				append(want, load(37, next), swap(37, next, next+1), load(37, next+1))...)
			a.Poke(37, next+1)
			tells(t, fmt.Sprintf("P16.1: it leads the next one, whose marked next is %d", next), asked{one, true}, a, outcome{16, 35, next / 2}, true,
				append(want, load(37, next+1))...)
		}
	}
}

// TestPlaces: chunks wherever they lie, the next one ahead of it, too.
func TestPlaces(t *testing.T) {
	for x := 5; x <= 107; x++ {
		for n := 5; n <= 107; n++ {
			if max(x-n, n-x) < 3 {
				continue
			}
			a := junk(t, two())
			lay(a, x, 2*n, 0, 0)
			lay(a, n, 14, 0, 0)
			tells(t, fmt.Sprintf("P16.1: chunks at %d and %d", x, n), asked{x, true}, a, outcome{x, n, 7}, true,
				swap(x+3, 0, x), load(x+3, x), load(x+2, 2*n), swap(x+2, 2*n, 2*n+1), load(x+2, 2*n+1), load(x+4, 0), swap(x+4, 0, n), load(x+4, n),
				swap(n+3, 0, x), load(n+3, x), load(n+2, 14), swap(n+2, 14, 15), load(n+2, 15))
		}
	}
}

// TestRoundChains: a chunk that is its own next one, and two that are each other's.
func TestRoundChains(t *testing.T) {
	a := chain(t, 1)
	a.Poke(18, 32)
	tells(t, "P16.1: its own next one", asked{one, true}, a, outcome{16, 16, 16}, true,
		swap(19, 0, 16), load(19, 16), load(18, 32), swap(18, 32, 33), load(18, 33), load(20, 0), swap(20, 0, 16), load(20, 16), vain(19, 16), load(19, 16), load(18, 33))
	a = chain(t, 2)
	a.Poke(37, 32)
	tells(t, "P16.1: each other's next one", asked{one, true}, a, outcome{16, 35, 16}, true,
		swap(19, 0, 16), load(19, 16), load(18, 70), swap(18, 70, 71), load(18, 71), load(20, 0), swap(20, 0, 35), load(20, 35),
		swap(38, 0, 16), load(38, 16), load(37, 32), swap(37, 32, 33), load(37, 33))
}

// TestWhatIsTouched: the FLead, FNext and FMate of the two, no other word; of the next one none, if it is led by another one, or if nobody is the mate.
func TestWhatIsTouched(t *testing.T) {
	for _, draw := range draws() {
		for _, lead := range []int{0, one, other, third} {
			a := chain(t, 3)
			a.Poke(38, lead)
			want := words(a)
			want[18], want[19], want[20] = 71, 16, 1
			if draw {
				want[20] = 35
			}
			if draw && (lead == 0 || lead == one) {
				want[37], want[38] = 109, 16
			}
			alone(t, asked{one, draw}, a)
			if got := words(a); !slices.Equal(got, want) {
				t.Errorf("P16.1: draw %v, %d leads the next one: %v, not %v", draw, lead, got, want)
			}
		}
	}
}

// TestWhatIsToldOnTheWay: the chunks at the end alone, Drew from line 6 on; both then for ever, whatever the words are.
func TestWhatIsToldOnTheWay(t *testing.T) {
	for _, x := range []struct {
		draw        bool
		drawn, last int
		want        outcome
	}{{false, 7, 8, outcome{16, 0, 35}}, {true, 7, 13, outcome{16, 35, 54}}} {
		l, a := asked{one, x.draw}.lead(), chain(t, 3)
		for steps := range 20 {
			want := outcome{}
			if steps >= x.last {
				want = x.want
				for at := range 50 {
					a.Poke(at, 100*steps+at)
				}
			}
			if got, drew := told(t, l); got != want || drew != (steps >= x.drawn) {
				t.Errorf("P16.1: behind %d steps: %v, %v", steps, got, drew)
			}
			if over := l.Step(a); over != (steps >= x.last-1) {
				t.Errorf("P16.1: step %d: %v", steps, over)
			}
		}
	}
}

// TestChangesBetweenSteps: what a line was told counts as it was then, and nothing else of it later.
func TestChangesBetweenSteps(t *testing.T) {
	whole := []api.Access{
		swap(19, 0, 16), load(19, 16), load(18, 70), swap(18, 70, 71), load(18, 71), load(20, 0), swap(20, 0, 35), load(20, 35),
		swap(38, 0, 16), load(38, 16), load(37, 108), swap(37, 108, 109), load(37, 109),
	}
	both, ends := outcome{16, 35, 54}, outcome{16, 0, 35}
	to := func(n int, then ...api.Access) []api.Access { return slices.Concat(whole[:n], then) }
	from := func(n int, first ...api.Access) []api.Access { return slices.Concat(first, whole[n:]) }
	toFrom := func(n, m int, amid ...api.Access) []api.Access { return slices.Concat(whole[:n], amid, whole[m:]) }
	for _, x := range []struct {
		what    string
		changes []change
		want    []api.Access
		outcome outcome
		drew    bool
	}{
		{"none", nil, whole, both, true},
		{"another one leads it for it ahead of 1", []change{{0, 19, 16}}, from(1, vain(19, 16)), both, true},
		{"the next one leads it ahead of 1", []change{{0, 19, 35}, {0, 39, 1}},
			[]api.Access{vain(19, 35), load(19, 35), load(37, 108), swap(37, 108, 109), load(37, 109), load(39, 1)}, outcome{35, 0, 54}, false},
		{"the next one leads it behind 1", []change{{1, 19, 35}, {1, 39, 1}},
			to(1, load(19, 35), load(37, 108), swap(37, 108, 109), load(37, 109), load(39, 1)), outcome{35, 0, 54}, false},
		{"the next one leads it behind 2", []change{{2, 19, 35}, {2, 39, 1}}, whole, both, true},
		{"it is led no longer", []change{{3, 19, 0}, {9, 19, 54}}, whole, both, true},
		{"marked ahead of 3", []change{{2, 18, 71}}, toFrom(2, 4), both, true},
		{"marked ahead of 4", []change{{3, 18, 71}}, toFrom(3, 4, vain(18, 71)), both, true},
		{"marked elsewhere ahead of 4", []change{{3, 18, 109}, {3, 57, 16}, {3, 56, 185}},
			to(3, vain(18, 109), load(18, 109), load(20, 0), swap(20, 0, 54), load(20, 54), vain(57, 16), load(57, 16), load(56, 185)), outcome{16, 54, 92}, true},
		{"another next ahead of 4", []change{{3, 18, 108}, {5, 18, 70}, {7, 18, 72}},
			to(3, vain(18, 108), load(18, 108), vain(18, 70), load(18, 70), vain(18, 72), load(18, 72), swap(18, 72, 73), load(18, 73), load(20, 0), swap(20, 0, 36), load(20, 36),
				swap(39, 0, 16), load(39, 16), load(38, 0), swap(38, 0, 1), load(38, 1)), outcome{16, 36, 0}, true},
		{"none ahead of 4", []change{{3, 18, 0}}, to(3, vain(18, 0), load(18, 0), swap(18, 0, 1), load(18, 1), load(20, 0), swap(20, 0, 1), load(20, 1)), outcome{16, 0, 0}, true},
		{"none, marked, ahead of 4", []change{{3, 18, 1}}, to(3, vain(18, 1), load(18, 1), load(20, 0), swap(20, 0, 1), load(20, 1)), outcome{16, 0, 0}, true},
		{"another next behind 4", []change{{4, 18, 109}, {4, 20, 1}}, to(4, load(18, 109), load(20, 1)), outcome{16, 0, 54}, false},
		{"no longer marked behind 4", []change{{4, 18, 70}}, toFrom(4, 4, load(18, 70), swap(18, 70, 71)), both, true},
		{"another next behind the last 3", []change{{5, 18, 109}, {6, 18, 0}, {8, 18, 70}}, whole, both, true},
		{"nobody ahead of 5", []change{{5, 20, 1}}, to(5, load(20, 1)), ends, false},
		{"a mate ahead of 5", []change{{5, 20, 35}}, toFrom(5, 8, load(20, 35)), both, false},
		{"another mate ahead of 5", []change{{5, 20, 54}}, toFrom(5, 8, load(20, 54)), both, false},
		{"nobody ahead of 6", []change{{6, 20, 1}}, to(6, vain(20, 1), load(20, 1)), ends, true},
		{"a mate ahead of 6", []change{{6, 20, 35}}, toFrom(6, 7, vain(20, 35)), both, true},
		{"another mate ahead of 6", []change{{6, 20, 54}}, toFrom(6, 8, vain(20, 54), load(20, 54)), both, true},
		{"nobody behind 6", []change{{7, 20, 1}}, to(7, load(20, 1)), ends, true},
		{"another mate behind 6", []change{{7, 20, 54}}, toFrom(7, 8, load(20, 54)), both, true},
		{"not chosen any more behind 6", []change{{7, 20, 0}}, toFrom(7, 8, load(20, 0)), both, true},
		{"nobody behind 7", []change{{8, 20, 1}}, whole, both, true},
		{"led for it ahead of 8", []change{{8, 38, 16}}, toFrom(8, 9, vain(38, 16)), both, true},
		{"led by itself ahead of 8", []change{{8, 38, 35}}, to(8, vain(38, 35), load(38, 35)), ends, true},
		{"led by a third one ahead of 8", []change{{0, 38, 54}}, to(8, vain(38, 54), load(38, 54)), ends, true},
		{"led by itself, and then by the leader", []change{{8, 38, 35}, {9, 38, 16}}, toFrom(8, 9, vain(38, 35)), both, true},
		{"led by itself behind 8", []change{{9, 38, 35}}, to(9, load(38, 35)), ends, true},
		{"led by nobody behind 8", []change{{9, 38, 0}}, to(9, load(38, 0)), ends, true},
		{"led by itself behind 9", []change{{10, 38, 35}}, whole, both, true},
		{"its next is marked ahead of 10", []change{{10, 37, 109}}, to(10, load(37, 109)), both, true},
		{"its next is marked ahead of 11", []change{{11, 37, 109}}, toFrom(11, 12, vain(37, 109)), both, true},
		{"its next is another one ahead of 11", []change{{11, 37, 146}, {13, 37, 184}},
			to(11, vain(37, 146), load(37, 146), vain(37, 184), load(37, 184), swap(37, 184, 185), load(37, 185)), outcome{16, 35, 92}, true},
		{"its next is none ahead of 11", []change{{11, 37, 0}}, to(11, vain(37, 0), load(37, 0), swap(37, 0, 1), load(37, 1)), outcome{16, 35, 0}, true},
		{"its next is another one behind 11", []change{{12, 37, 147}}, to(12, load(37, 147)), outcome{16, 35, 73}, true},
		{"its next is no longer marked behind 11", []change{{12, 37, 108}}, toFrom(12, 11, load(37, 108)), both, true},
		{"its next is another one behind the end", []change{{13, 37, 147}, {13, 19, 35}, {13, 20, 1}, {13, 38, 35}}, whole, both, true},
		{"other words of both", []change{{0, 22, 1}, {2, 21, 73}, {6, 40, 73}, {9, 41, 2}, {10, 16, 9}, {11, 17, 9}, {12, 39, 54}}, whole, both, true},
	} {
		r := amid(t, asked{one, true}, chain(t, 4), x.changes...)
		if !slices.Equal(r.done, x.want) {
			t.Errorf("P16.1: %s: %v, not %v", x.what, r.done, x.want)
		}
		if got := r.ends(); got != x.outcome || r.Drew() != x.drew {
			t.Errorf("P16.1: %s: %v, drew %v, not %v, %v", x.what, got, r.Drew(), x.outcome, x.drew)
		}
	}
}

// TestEachChange: of each word of the chunks, between any two steps, ahead of and behind them all; then of two words.
func TestEachChange(t *testing.T) {
	values := []int{0, 1, 2, 16, 35, 54, 70, 71, 108, 109}
	whole := chain(t, 4)
	for behind := range 14 {
		for at := one - 3; at < third+19; at++ {
			for _, word := range values {
				for _, draw := range draws() {
					amid(t, asked{one, draw}, whole.Copy(), change{behind, at, word})
				}
			}
		}
	}
	places, values := []int{18, 19, 20, 37, 38}, []int{0, 1, 16, 35, 54, 109, 146}
	for i := range 12 * len(places) * len(values) {
		for j := range 12 * len(places) {
			x := change{i % 12, places[i/12%len(places)], values[i/12/len(places)]}
			y := change{j % 12, places[j/12], values[(i+j/12)%len(values)]}
			amid(t, asked{one, true}, whole.Copy(), x, y)
		}
	}
}

// drawer: numbers by rule, from 0 on, below what is asked.
func drawer(seed int) func(below int) int {
	n := seed
	return func(below int) int {
		n = (n*1103515245 + 12345) % (1 << 31)
		return n >> 16 % below
	}
}

// TestDrawnWords: words that are no chunk's, chunks wherever, and changes of many words.
func TestDrawnWords(t *testing.T) {
	draw, ends := drawer(1), map[string]int{}
	small := func() int { return []int{0, 0, 0, 1, 2, 3, 5, 8, 10, 11, 16, 17, 20, 21}[draw(14)] }
	for range 20000 {
		a := made(t, two())
		for at := range a.Len() {
			a.Poke(at, small())
		}
		x := asked{draw(30), draw(2) == 1}
		changes := make([]change, draw(12))
		for i := range changes {
			changes[i] = change{draw(12), draw(30), small()}
		}
		r := amid(t, x, a, changes...)
		switch got := r.ends(); {
		case got.mate != 0:
			ends["both"]++
		case got.behind == 0:
			ends["no next"]++
		case r.Drew():
			ends["alone, drew"]++
		default:
			ends["alone"]++
		}
		if r.done[1].Old != x.chunk {
			ends["another one leads"]++
		}
	}
	for _, end := range []string{"both", "no next", "alone, drew", "alone", "another one leads"} {
		if ends[end] < 1000 {
			t.Errorf("drawn ends: %v", ends)
		}
	}
}

// TestAChunkThatIsNotThere: its words are 0, so that what lies at 0 leads; one of whose words not all are there likewise. A next one that isn't there can't be led.
func TestAChunkThatIsNotThere(t *testing.T) {
	for _, x := range append(noNumbers(), 109, 110, 112, 1000) {
		if x < 0 && x >= -3 {
			continue
		}
		a := chain(t, 2)
		lay(a, 0, 71, 5, 1)
		tells(t, fmt.Sprint("P16.1: a chunk at ", x), asked{x, true}, a, outcome{0, 0, 35}, false,
			vain(x+3, 0), load(x+3, 0), load(2, 71), load(4, 1))
	}
	for _, n := range []int{110, 112, 1000, 1 << 40} {
		a := chain(t, 2)
		a.Poke(18, 2*n+1)
		tells(t, fmt.Sprint("P16.1: a next one at ", n), asked{one, true}, a, outcome{16, 0, n}, true,
			swap(19, 0, 16), load(19, 16), load(18, 2*n+1), load(20, 0), swap(20, 0, n), load(20, n), vain(n+3, 0), load(n+3, 0))
	}
}

// TestWhoIsNotThereLeads: its next is never marked: each step is an access, until others let it be led.
func TestWhoIsNotThereLeads(t *testing.T) {
	a, r := chain(t, 2), begun(asked{one, true})
	a.Poke(19, 1000)
	want := []api.Access{vain(19, 1000), load(19, 1000)}
	for range 10 {
		want = append(want, load(1002, 0), vain(1002, 0))
	}
	for range want {
		r.turn(t, a)
	}
	if !slices.Equal(r.done, want) || r.over {
		t.Errorf("P16.1: who isn't there leads: %v", r.done)
	}
}

// TestAnArenaIsNotKept: each step asks the one that it is handed.
func TestAnArenaIsNotKept(t *testing.T) {
	r := begun(asked{one, true})
	for i := range 13 {
		a := chain(t, 4)
		for at, word := range map[int]int{19: []int{0, 54}[min(i, 1)], 56: []int{70, 70, 70, 70, 147}[min(i, 4)], 58: []int{0, 73}[min(i/7, 1)], 76: []int{0, 54}[min(i/9, 1)], 75: []int{16, 17}[i/12]} {
			a.Poke(at, word)
		}
		r.turn(t, a)
		for at := range a.Len() {
			a.Poke(at, 1)
		}
	}
	want := []api.Access{
		swap(19, 0, 16), load(19, 54), load(56, 70), swap(56, 70, 71), load(56, 147), load(58, 0), swap(58, 0, 73), load(58, 73),
		swap(76, 0, 54), load(76, 54), load(75, 16), swap(75, 16, 17), load(75, 17),
	}
	if !slices.Equal(r.done, want) || r.ends() != (outcome{54, 73, 8}) || !r.Drew() || !r.over {
		t.Errorf("P16.1: of many arenas: %v, %v", r.done, r.ends())
	}
}

// TestNobodyElseIsAsked: the conf, and words of others, don't matter.
func TestNobodyElseIsAsked(t *testing.T) {
	a := chain(t, 3)
	want := alone(t, asked{one, true}, a.Copy())
	for _, n := range append(noNumbers(), 0, 1, 2, 3, 9) {
		b := a.Copy()
		for at := range b.Len() {
			if (at < 18 || at > 20) && at != 37 && at != 38 {
				b.Poke(at, n)
			}
		}
		tells(t, fmt.Sprint("P16.1: other words are ", n), asked{one, true}, b, want.ends(), true, want.done...)
	}
	for _, c := range confs() {
		l, b := New(c, one, true), a.Copy()
		var done []api.Access
		for over := false; !over && len(done) < most; {
			var x api.Access
			x, over = step(t, l, b)
			done = append(done, x)
		}
		if got, drew := told(t, l); !slices.Equal(done, want.done) || got != want.ends() || !drew {
			t.Errorf("P16.1: %+v: %v", c, done)
		}
	}
}

// TestLeadsAreTheirOwn: two that are made alike share nothing.
func TestLeadsAreTheirOwn(t *testing.T) {
	x, y := begun(asked{one, true}), begun(asked{one, true})
	x.toItsEnd(t, chain(t, 3))
	if got, drew := told(t, y.Lead); got != (outcome{}) || drew {
		t.Errorf("P16.1: one that hasn't begun: %v, %v", got, drew)
	}
	a := chain(t, 3)
	a.Poke(38, other)
	y.toItsEnd(t, a)
	if x.ends() != (outcome{16, 35, 54}) || y.ends() != (outcome{16, 0, 35}) {
		t.Errorf("P16.1: two of their own: %v, %v", x.ends(), y.ends())
	}
}

// P16.2: whoever comes finds the same

// agree: each lead's chunk is one of its two, and no chunk is one of the two of several leaders; those of one leader tell the same; the chunks are as the chain has them.
func agree(t *testing.T, what string, l ...*running) {
	t.Helper()
	of := map[int]outcome{}
	for _, r := range l {
		got := r.ends()
		for _, chunk := range []int{got.leader, got.mate} {
			if x, before := of[chunk]; chunk != 0 && before && x != got {
				t.Errorf("%s: of %d %v, and %v", what, chunk, x, got)
			}
			of[chunk] = got
		}
		if !r.over || r.asked.chunk != got.leader && r.asked.chunk != got.mate || got.leader == 0 {
			t.Errorf("%s: %+v: ended %v: %v", what, r.asked, r.over, got)
		}
	}
}

// late: those that come at last, to each chunk, with either draw, find what was found.
func late(t *testing.T, what string, a *arena.Arena, chunks []int, l ...*running) {
	t.Helper()
	for _, chunk := range chunks {
		for _, draw := range draws() {
			r := begun(asked{chunk, draw})
			r.toItsEnd(t, a)
			l = append(l, r)
		}
	}
	agree(t, what, l...)
}

// everybody: leads of these chunks, with whatever draws.
func everybody(chunks ...int) []asked {
	var l []asked
	for _, chunk := range chunks {
		l = append(l, asked{chunk, false}, asked{chunk, true})
	}
	return l
}

// TestOneBehindTheOther: three of the chunk, its mate, its neighbour: the first one of them chooses.
func TestOneBehindTheOther(t *testing.T) {
	all := everybody(one, other, third)
	for i := range len(all) * len(all) * len(all) {
		a := chain(t, 5)
		var l []*running
		for _, x := range []asked{all[i%6], all[i/6%6], all[i/36]} {
			r := begun(x)
			r.toItsEnd(t, a)
			l = append(l, r)
		}
		want := outcome{l[0].asked.chunk, 0, l[0].asked.chunk + 19}
		if l[0].asked.draw {
			want.mate, want.behind = want.behind, want.behind+19
		}
		if got := l[0].ends(); got != want || !l[0].Drew() {
			t.Errorf("P16.2: the first one: %v, not %v", got, want)
		}
		for _, r := range l[1:] {
			if r.asked.chunk == want.leader || r.asked.chunk == want.mate {
				if r.ends() != want || r.Drew() {
					t.Errorf("P16.2: %+v behind %+v: %v, drew %v, not %v", r.asked, l[0].asked, r.ends(), r.Drew(), want)
				}
			}
		}
		late(t, "P16.2: one behind the other", a, []int{one, other, third}, l...)
	}
}

// moment: how far leads are, and the words of the chunks at 16, 35, 54, 73.
type moment struct {
	leads [3]Lead
	overs [3]bool
	words [12]int
}

func chunkWords() [12]int { return [12]int{18, 19, 20, 37, 38, 39, 56, 57, 58, 75, 76, 77} }

func (m *moment) note(a *arena.Arena) {
	for i, at := range chunkWords() {
		m.words[i] = a.Peek(at)
	}
}

func (m *moment) lay(a *arena.Arena) {
	for i, at := range chunkWords() {
		a.Poke(at, m.words[i])
	}
}

// moments: all in which these leads may be, whoever's turn it is, ends where none has one any more.
func moments(t *testing.T, a *arena.Arena, l []asked, end func(m moment)) int {
	t.Helper()
	var m moment
	for i, x := range l {
		m.leads[i] = *x.lead()
	}
	m.note(a)
	seen, open := map[moment]bool{m: true}, []moment{m}
	for len(open) > 0 {
		m, open = open[len(open)-1], open[:len(open)-1]
		last := true
		for i := range l {
			if m.overs[i] {
				continue
			}
			last = false
			n := m
			n.lay(a)
			n.overs[i] = n.leads[i].Step(a)
			n.note(a)
			if !seen[n] {
				seen[n] = true
				open = append(open, n)
			}
		}
		if last {
			end(m)
		}
	}
	return len(seen)
}

// TestEachTurn: two and three of the chunk, its mate, its neighbour, step by step, in each order that there may be.
func TestEachTurn(t *testing.T) {
	all := everybody(one, other, third)
	var groups [][]asked
	for i, x := range all {
		for j, y := range all[i:] {
			groups = append(groups, []asked{x, y})
			for _, z := range all[i+j:] {
				groups = append(groups, []asked{x, y, z})
			}
		}
	}
	found, most := map[outcome]int{}, 0
	for _, l := range groups {
		a := chain(t, 4)
		n := moments(t, a, l, func(m moment) {
			var ended []*running
			for i, x := range l {
				r := &running{Lead: &m.leads[i], asked: x, over: m.overs[i]}
				ended = append(ended, r)
				found[r.ends()]++
			}
			agree(t, fmt.Sprintf("P16.2: %+v in turns", l), ended...)
			m.lay(a)
			late(t, fmt.Sprintf("P16.2: behind %+v in turns", l), a, []int{one, other, third, 73}, ended...)
		})
		most = max(most, n)
	}
	for _, x := range []outcome{{16, 0, 35}, {16, 35, 54}, {35, 0, 54}, {35, 54, 73}, {54, 0, 73}, {54, 73, 0}} {
		if found[x] < 100 {
			t.Errorf("P16.2: in turns %v are found %d times", x, found[x])
		}
	}
	if len(found) != 6 || most < 1000 {
		t.Errorf("P16.2: in turns: %v, %d moments", found, most)
	}
}

// orders: of so many turns of one and of another one: each order, true is the other one's.
func orders(one, other int, each func(order []bool)) {
	for set := range uint(1) << (one + other) {
		if bits.OnesCount(set) != other {
			continue
		}
		order := make([]bool, one+other)
		for i := range order {
			order[i] = set>>i&1 == 1
		}
		each(order)
	}
}

// TestEachOrderOfTwo: of so many steps of each, then both to their ends, what each one does held against its lines.
func TestEachOrderOfTwo(t *testing.T) {
	for _, x := range []struct {
		one, other      asked
		turns, othersTo int
	}{{asked{one, true}, asked{one, false}, 8, 8}, {asked{one, true}, asked{other, true}, 13, 3}, {asked{other, false}, asked{one, true}, 3, 13}} {
		base, found := chain(t, 4), map[[2]outcome]int{}
		orders(x.turns, x.othersTo, func(order []bool) {
			a := base.Copy()
			l := []*running{begun(x.one), begun(x.other)}
			for _, others := range order {
				r := l[0]
				if others {
					r = l[1]
				}
				if !r.over {
					r.turn(t, a)
				}
			}
			l[1].toItsEnd(t, a)
			l[0].toItsEnd(t, a)
			agree(t, "P16.2: two in turns", l...)
			if !l[0].Drew() && !l[1].Drew() {
				t.Error("P16.2: two in turns: nobody has drawn")
			}
			found[[2]outcome{l[0].ends(), l[1].ends()}]++
		})
		if len(found) != 2 {
			t.Errorf("P16.2: two in turns: %v", found)
		}
	}
}

// TestOneThatIsLeft behind each of its steps, for ever, or until the others have ended: these find what it finds.
func TestOneThatIsLeft(t *testing.T) {
	for _, x := range everybody(one, other, third) {
		for steps := range 14 {
			for _, y := range everybody(one, other, third) {
				a, left, next := chain(t, 4), begun(x), begun(y)
				for i := 0; i < steps && !left.over; i++ {
					left.turn(t, a)
				}
				next.toItsEnd(t, a)
				late(t, fmt.Sprintf("P16.2: %+v is left behind %d steps", x, steps), a, []int{one, other, third, 73}, next)
				left.toItsEnd(t, a)
				late(t, fmt.Sprintf("P16.2: %+v goes on behind %d steps", x, steps), a, []int{one, other, third, 73}, next, left)
			}
		}
	}
}

// TestManyOthers: of a chain of five chunks, as drawn, some of them late, while what lies behind a chunk is replaced: a next that isn't marked goes elsewhere.
func TestManyOthers(t *testing.T) {
	draw, shapes := drawer(4), map[string]int{}
	for range 2000 {
		a := chain(t, 5)
		var l []*running
		for range 2 + draw(6) {
			l = append(l, begun(asked{one + 19*draw(5), draw(2) == 1}))
		}
		for turns := 0; slices.ContainsFunc(l, func(r *running) bool { return !r.over }); turns++ {
			i := draw(len(l) + 1)
			if i < len(l) && turns >= 20*i {
				l[i].turn(t, a)
			}
			at := one + 19*draw(5) + 2
			if w := a.Peek(at); w%2 == 0 && draw(40) == 0 {
				a.Poke(at, 2*(one+19*(1+draw(4))))
			}
		}
		agree(t, "P16.2: among many", l...)
		for _, r := range l {
			if r.ends().mate != 0 {
				shapes["both"]++
			} else {
				shapes["alone"]++
			}
			if r.ends().leader != r.asked.chunk {
				shapes["led"]++
			}
			if r.ends().behind != 0 && r.ends().behind != max(r.ends().leader, r.ends().mate)+19 {
				shapes["elsewhere"]++
			}
			for _, x := range r.done {
				if x.Kind == api.KSwap && x.At%19 == 18 && !x.Ok {
					shapes["again"]++
				}
			}
		}
		late(t, "P16.2: behind many", a, []int{one, other, third, 73, 92}, l...)
	}
	for _, x := range []string{"both", "alone", "led", "elsewhere", "again"} {
		if shapes[x] < 100 {
			t.Errorf("P16.2: among many: %v", shapes)
		}
	}
}

// Wrong inputs

// TestAnyInputs: of these nothing is promised but that no call panics, and that a step is one access at most.
func TestAnyInputs(t *testing.T) {
	bad := []api.Conf{{}, {Threads: -1, Cap: -1, Words: -1, Versions: -1}, {Threads: math.MaxInt, Cap: math.MaxInt, Words: math.MaxInt, Versions: math.MaxInt}, {Threads: math.MinInt, Cap: math.MinInt}, two()}
	for _, c := range bad {
		for _, chunk := range append(noNumbers(), 0, 1, 2, 16) {
			for _, word := range append(noNumbers(), 0, 1, 2, 3, 16) {
				for _, draw := range draws() {
					a := arena.New(24)
					for at := range a.Len() {
						a.Poke(at, word)
					}
					anySteps(t, New(c, chunk, draw), a)
				}
			}
			anySteps(t, New(c, chunk, true), arena.New(30))
			anySteps(t, New(c, chunk, false), arena.New(-1))
		}
	}
	anySteps(t, new(Lead), arena.New(20))
}

func anySteps(t *testing.T, l *Lead, a *arena.Arena) {
	t.Helper()
	ended := false
	for range 30 {
		n, was := a.Accesses(), words(a)
		over := l.Step(a)
		if a.Accesses() > n+1 || !over && a.Accesses() == n || ended && (!over || a.Accesses() != n || !slices.Equal(words(a), was)) {
			t.Fatalf("P16.1: %+v: ended %v, %d accesses", l, over, a.Accesses()-n)
		}
		if got, _ := told(t, l); !over && got != (outcome{}) {
			t.Fatalf("P16.1: %+v: it hasn't ended: %v", l, got)
		}
		ended = over
	}
}
