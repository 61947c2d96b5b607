package place

import (
	"errors"
	"math"
	"testing"

	"armillary/api"
	"armillary/arena"
)

// two threads, chunks of four cells.
func two() api.Conf { return api.Conf{Threads: 2, Cap: 4, Words: 1000, Versions: 100} }

// least and most: the smallest and the largest of all that may be.
func least() api.Conf { return api.Conf{Threads: 1, Cap: 3, Words: 31, Versions: 1} }

func most() api.Conf {
	return api.Conf{Threads: 8, Cap: 16, Words: 20000, Versions: 1 << 20}
}

// shapes: all Threads and Caps of which places are promised; Words just suffice.
func shapes() []api.Conf {
	var l []api.Conf
	for threads := 1; threads <= 8; threads++ {
		for cells := 1; cells <= 16; cells++ {
			l = append(l, api.Conf{Threads: threads, Cap: cells, Words: 21 + threads + 3*cells, Versions: 1})
		}
	}
	return l
}

// wellFormed: the shapes that a memory may have.
func wellFormed() []api.Conf {
	var l []api.Conf
	for _, c := range shapes() {
		if c.Cap >= c.Threads+2 {
			l = append(l, c)
		}
	}
	return l
}

// far: numbers that nothing has.
func far() []int {
	return []int{math.MinInt, math.MinInt + 1, -1 << 40, -20001, -64, -2, -1, 1 << 31, 1 << 40, math.MaxInt - 2, math.MaxInt - 1, math.MaxInt}
}

// checkCode asks Is and Make alike.
func checkCode(t *testing.T, c api.Conf, want api.Errno) {
	t.Helper()
	checkError(t, c, "P3.1: Is", Is(c), want)
	a, err := Make(c)
	checkError(t, c, "P3.2: Make", err, want)
	if (a == nil) != (want != api.OK) {
		t.Errorf("P3.2: Make of %+v: beside %v, an arena: %v", c, err, a != nil)
	}
}

func checkError(t *testing.T, c api.Conf, what string, err error, want api.Errno) {
	t.Helper()
	if want == api.OK {
		if err != nil {
			t.Errorf("%s of %+v: %v", what, c, err)
		}
		return
	}
	var told api.Errno
	if !errors.Is(err, want) || !errors.As(err, &told) || told != want {
		t.Errorf("%s of %+v: %v, not %v", what, c, err, want)
	}
}

// P3.1: Is

func TestIsTakesTheLeastAndTheMost(t *testing.T) {
	for _, c := range append(wellFormed(), two(), least(), most()) {
		checkCode(t, c, api.OK)
		c.Words, c.Versions = 20000, 1<<20
		checkCode(t, c, api.OK)
	}
}

func TestIsHoldsThreads(t *testing.T) {
	for _, x := range []struct {
		threads int
		want    api.Errno
	}{{-1, api.ErrForm}, {0, api.ErrForm}, {1, api.OK}, {2, api.OK}, {7, api.OK}, {8, api.OK}, {9, api.ErrForm}, {10, api.ErrForm}, {14, api.ErrForm}} {
		c := most()
		c.Threads = x.threads
		checkCode(t, c, x.want)
	}
}

func TestIsHoldsCells(t *testing.T) {
	for threads := 1; threads <= 8; threads++ {
		for cells := -1; cells <= 20; cells++ {
			want := api.ErrForm
			if cells >= threads+2 && cells <= 16 {
				want = api.OK
			}
			checkCode(t, api.Conf{Threads: threads, Cap: cells, Words: 20000, Versions: 5}, want)
		}
	}
}

func TestIsHoldsVersions(t *testing.T) {
	for _, x := range []struct {
		versions int
		want     api.Errno
	}{{-1, api.ErrForm}, {0, api.ErrForm}, {1, api.OK}, {2, api.OK}, {1<<20 - 1, api.OK}, {1 << 20, api.OK}, {1<<20 + 1, api.ErrForm}, {1 << 21, api.ErrForm}} {
		for _, c := range []api.Conf{two(), least(), most()} {
			c.Versions = x.versions
			checkCode(t, c, x.want)
		}
	}
}

func TestIsHoldsWords(t *testing.T) {
	for _, x := range []struct {
		words int
		want  api.Errno
	}{{-1, api.ErrForm}, {0, api.ErrForm}, {1, api.ErrFull}, {2, api.ErrFull}, {19, api.ErrFull}, {19999, api.OK}, {20000, api.OK}, {20001, api.ErrForm}, {40000, api.ErrForm}} {
		for _, c := range []api.Conf{two(), least(), most()} {
			c.Words = x.words
			checkCode(t, c, x.want)
		}
	}
}

func TestIsWithWordsThatJustSuffice(t *testing.T) {
	for _, c := range wellFormed() {
		for more, want := range map[int]api.Errno{-2: api.ErrFull, -1: api.ErrFull, 0: api.OK, 1: api.OK} {
			d := c
			d.Words += more
			checkCode(t, d, want)
		}
	}
	for _, x := range []struct {
		threads, cells, words int
		want                  api.Errno
	}{{1, 3, 30, api.ErrFull}, {1, 3, 31, api.OK}, {2, 4, 34, api.ErrFull}, {2, 4, 35, api.OK}, {8, 16, 76, api.ErrFull}, {8, 16, 77, api.OK}} {
		checkCode(t, api.Conf{Threads: x.threads, Cap: x.cells, Words: x.words, Versions: 1}, x.want)
	}
}

func TestIsWithWhatIsFarPast(t *testing.T) {
	checkCode(t, api.Conf{}, api.ErrForm)
	for _, n := range far() {
		for _, c := range []api.Conf{{}, two(), least(), most()} {
			threads, cells, words, versions := c, c, c, c
			threads.Threads, cells.Cap, words.Words, versions.Versions = n, n, n, n
			for _, d := range []api.Conf{threads, cells, words, versions, {Threads: n, Cap: n, Words: n, Versions: n}} {
				checkCode(t, d, api.ErrForm)
			}
		}
	}
}

// TestIsTellsTheFormFirst: what is ill-formed has too few words, too.
func TestIsTellsTheFormFirst(t *testing.T) {
	for _, c := range []api.Conf{
		{Threads: 2, Cap: 3, Words: 5, Versions: 1},
		{Threads: 0, Cap: 4, Words: 5, Versions: 1},
		{Threads: 9, Cap: 16, Words: 5, Versions: 1},
		{Threads: 2, Cap: 17, Words: 5, Versions: 1},
		{Threads: 2, Cap: 4, Words: 34, Versions: 0},
		{Threads: 2, Cap: 4, Words: 34, Versions: 1<<20 + 1},
		{Threads: 2, Cap: 4, Words: 0, Versions: 1},
		{Threads: 2, Cap: 4, Words: -1, Versions: 1},
		{Threads: 2, Cap: 1 << 40, Words: 20000, Versions: 1},
	} {
		checkCode(t, c, api.ErrForm)
	}
}

// P3.1: places

func TestPlacesOfSome(t *testing.T) {
	for _, x := range []struct {
		threads, cells, size, hint, head, first, top int
	}{
		{1, 3, 16, 4, 8, 15, 31},
		{2, 4, 19, 5, 9, 16, 35},
		{3, 7, 28, 6, 10, 17, 45},
		{8, 10, 37, 11, 15, 22, 59},
		{8, 16, 55, 11, 15, 22, 77},
		{1, 16, 55, 4, 8, 15, 70},
		{8, 1, 10, 11, 15, 22, 32}, // no such memory is made, but its places are told
		{1, 1, 10, 4, 8, 15, 25},
	} {
		c := api.Conf{Threads: x.threads, Cap: x.cells}
		if Size(c) != x.size || Hint(c, 0) != x.hint || Head(c) != x.head || First(c) != x.first || Top(c) != x.top {
			t.Errorf("P3.1: of %+v: %d, %d, %d, %d, %d, not %+v", c, Size(c), Hint(c, 0), Head(c), First(c), Top(c), x)
		}
	}
}

func TestPlacesHangOnThreadsAndCellsAlone(t *testing.T) {
	for _, c := range shapes() {
		threads, cells := c.Threads, c.Cap
		for _, n := range append(far(), 0, 1, 20000) {
			c.Words, c.Versions = n, n
			if Size(c) != 7+3*cells || Hint(c, 0) != 3+threads || Head(c) != 7+threads || First(c) != 14+threads || Top(c) != 21+threads+3*cells {
				t.Errorf("P3.1: of %+v: %d, %d, %d, %d, %d", c, Size(c), Hint(c, 0), Head(c), First(c), Top(c))
			}
		}
	}
}

func TestPsa(t *testing.T) {
	for thread, want := range []int{3, 4, 5, 6, 7, 8, 9, 10} {
		if got := Psa(thread); got != want {
			t.Errorf("P3.1: Psa(%d): %d, not %d", thread, got, want)
		}
	}
}

func TestHintAtItsBorders(t *testing.T) {
	for _, x := range []struct{ key, hint int }{
		{0, 0}, {1, 0}, {14, 0}, {15, 0}, {16, 1}, {17, 1}, {30, 1}, {31, 1}, {32, 2}, {33, 2}, {46, 2}, {47, 2}, {48, 3}, {49, 3}, {62, 3}, {63, 3},
	} {
		for _, c := range shapes() {
			if got := Hint(c, x.key); got != 3+c.Threads+x.hint {
				t.Errorf("P3.1: Hint(%+v, %d): %d, not %d", c, x.key, got, 3+c.Threads+x.hint)
			}
		}
	}
}

func TestHintOfEachKeyIsThatOfItsUpperBits(t *testing.T) {
	keys := map[int]int{}
	for key := 0; key <= api.MaxKey; key++ {
		at := Hint(two(), key)
		keys[at]++
		if at != 5+key/16 {
			t.Errorf("P3.1: hint of %d: %d", key, at)
		}
	}
	if len(keys) != api.Hints {
		t.Errorf("P3.1: %d hints", len(keys))
	}
	for at, n := range keys {
		if n != 16 {
			t.Errorf("P3.1: hint %d: of %d keys", at, n)
		}
	}
}

func TestStateOfCells(t *testing.T) {
	for _, x := range []struct{ at, i, want int }{
		{16, 0, 23}, {16, 1, 26}, {16, 2, 29}, {16, 3, 32}, {0, 0, 7}, {35, 0, 42}, {22, 15, 74}, {1000, 5, 1022}, {19945, 15, 19997},
	} {
		if got := State(x.at, x.i); got != x.want {
			t.Errorf("P3.1: State(%d, %d): %d, not %d", x.at, x.i, got, x.want)
		}
	}
}

func TestTheLastCellEndsItsChunk(t *testing.T) {
	for _, c := range shapes() {
		for _, at := range []int{First(c), Top(c), Top(c) + Size(c)} {
			if got := State(at, 0); got != at+api.FStatus+1 {
				t.Errorf("P3.1: the first cell of %d is at %d", at, got)
			}
			if got := State(at, c.Cap-1) + 3; got != at+Size(c) {
				t.Errorf("P3.1: behind the last cell of %d is %d, not %d", at, got, at+Size(c))
			}
		}
	}
}

// P3.2

// checkNew asks for each word of a new memory.
func checkNew(t *testing.T, c api.Conf, a *arena.Arena) {
	t.Helper()
	if a.Len() != c.Words || a.Accesses() != 0 || a.Last() != (api.Access{}) {
		t.Fatalf("P3.2: of %+v: %d words, %d accesses, the last one %+v", c, a.Len(), a.Accesses(), a.Last())
	}
	want := make([]int, c.Words)
	want[2] = 21 + c.Threads + 3*c.Cap
	want[7+c.Threads] = -1
	want[9+c.Threads] = 2 * (14 + c.Threads)
	for at, w := range want {
		if a.Peek(at) != w {
			t.Fatalf("P3.2: of %+v: word %d: %d, not %d", c, at, a.Peek(at), w)
		}
	}
}

func TestMakeLaysHeadAndTop(t *testing.T) {
	for _, c := range wellFormed() {
		for _, words := range []int{c.Words, c.Words + 1, 1000, 19999, 20000} {
			for _, versions := range []int{1, 100, 1 << 20} {
				c.Words, c.Versions = words, versions
				a, err := Make(c)
				if err != nil {
					t.Fatalf("P3.2: Make of %+v: %v", c, err)
				}
				checkNew(t, c, a)
			}
		}
	}
}

func TestMakeLaysWhatTheChapterNames(t *testing.T) {
	a, err := Make(two())
	if err != nil {
		t.Fatalf("P3.2: %v", err)
	}
	for _, x := range []struct {
		what     string
		at, want int
	}{
		{"the clock", api.AClock, 0}, {"the first free word", api.ATop, 35},
		{"Head's FMin", 9, -1}, {"Head's FCount", 10, 0}, {"Head's FNext", 11, 32}, {"Head's FLead", 12, 0}, {"Head's FMate", 13, 0}, {"Head's FRepl", 14, 0}, {"Head's FStatus", 15, 0},
		{"the first chunk's FMin", 16, 0}, {"the first chunk's FNext", 18, 0}, {"its first cell", 23, 0}, {"its last word", 34, 0},
	} {
		if got := a.Peek(x.at); got != x.want {
			t.Errorf("P3.2: %s: %d, not %d", x.what, got, x.want)
		}
	}
}

func TestMadeOnesShareNothing(t *testing.T) {
	a, err := Make(two())
	b, err2 := Make(two())
	if err != nil || err2 != nil {
		t.Fatalf("P3.2: %v, %v", err, err2)
	}
	for at := range a.Len() {
		a.Store(at, -9)
	}
	checkNew(t, two(), b)
	c, err := Make(two())
	if err != nil {
		t.Fatalf("P3.2: %v", err)
	}
	checkNew(t, two(), c)
}

// P3.3

// words: all words that the calls tell of, by what they are, with how many lie there.
func words(c api.Conf) map[string][2]int {
	first := First(c)
	l := map[string][2]int{
		"the clock":       {api.AClock, 1},
		"the top":         {api.ATop, 1},
		"Head":            {Head(c), api.Header},
		"the first chunk": {first, api.Header},
	}
	for thread := range c.Threads {
		l["thread "+string(rune('0'+thread))] = [2]int{Psa(thread), 1}
	}
	for hint := range api.Hints {
		l["hint "+string(rune('0'+hint))] = [2]int{Hint(c, 16*hint), 1}
	}
	for i := range c.Cap {
		l["cell "+string(rune('a'+i))] = [2]int{State(first, i), 3}
	}
	return l
}

// TestEverythingSharedHasItsPlace: each word ahead of Top, but 0, which is nobody's, belongs to one thing, and none behind it does.
func TestEverythingSharedHasItsPlace(t *testing.T) {
	for _, c := range shapes() {
		owner := map[int]string{}
		for what, x := range words(c) {
			for at := x[0]; at < x[0]+x[1]; at++ {
				if other, taken := owner[at]; taken {
					t.Errorf("P3.3: of %+v: word %d is %s and %s", c, at, what, other)
				}
				if at < 1 || at >= Top(c) {
					t.Errorf("P3.3: of %+v: word %d is %s", c, at, what)
				}
				owner[at] = what
			}
		}
		if len(owner) != Top(c)-1 {
			t.Errorf("P3.3: of %+v: %d words of %d are something's", c, len(owner), Top(c)-1)
		}
	}
}

// TestAllThatIsSharedIsThere: of the fewest words that suffice, each one can be laid and none touches another.
func TestAllThatIsSharedIsThere(t *testing.T) {
	for _, c := range wellFormed() {
		a, err := Make(c)
		if err != nil {
			t.Fatalf("P3.3: of %+v: %v", c, err)
		}
		laid := 0
		for _, x := range words(c) {
			for at := x[0]; at < x[0]+x[1]; at++ {
				a.Poke(at, 5)
				laid++
			}
		}
		sum := 0
		for at := range a.Len() {
			sum += a.Peek(at)
		}
		if sum != 5*laid || a.Peek(0) != 0 || a.Peek(a.Len()-1) != 5 {
			t.Errorf("P3.3: of %+v: %d words are laid, %d are there", c, laid, sum/5)
		}
	}
}

// What holds everywhere: all calls take all arguments, and hang on nothing but them.

func TestNoCallPanics(t *testing.T) {
	numbers := append(far(), 0, 1, 5, 8, 16, 63, 64, 20000)
	all := func() []int {
		var l []int
		for _, n := range numbers {
			for _, m := range numbers {
				for _, c := range []api.Conf{{Threads: n, Cap: m, Words: n, Versions: m}, {Threads: m, Cap: n, Words: 20000, Versions: 1}, two()} {
					l = append(l, Size(c), Head(c), First(c), Top(c), Hint(c, n), Hint(c, m), Psa(n), State(n, m))
					a, err := Make(c)
					var told api.Errno
					if (a == nil) != (err != nil) || (err != nil) != (Is(c) != nil) || err != nil && !errors.As(err, &told) {
						t.Errorf("P3.2: Make of %+v: %v", c, err)
					}
					l = append(l, int(told))
				}
			}
		}
		return l
	}
	first, second := all(), all()
	for i := range first {
		if first[i] != second[i] {
			t.Errorf("answer %d: %d, then %d", i, first[i], second[i])
		}
	}
}

// TestHintOfWhatIsNoKeyIsAHint: nothing is promised of it, but nobody is to be led to a word that is something else.
func TestHintOfWhatIsNoKeyIsAHint(t *testing.T) {
	for _, c := range shapes() {
		for _, key := range append(far(), 64, 65, 128) {
			if at := Hint(c, key); at < Hint(c, 0) || at > Hint(c, 63) {
				t.Errorf("Hint(%+v, %d): %d", c, key, at)
			}
		}
	}
}
