package op

import (
	"errors"
	"math"
	"slices"
	"testing"

	"armillary/api"
)

// two threads, chunks of four cells.
func two() api.Conf { return api.Conf{Threads: 2, Cap: 4, Words: 1000, Versions: 100} }

// threads: a memory of that many threads.
func threads(n int) api.Conf { return api.Conf{Threads: n, Cap: 16, Words: 20000, Versions: 1 << 20} }

// some: a script with each kind of op.
func some() api.Script {
	return api.Script{
		Conf: two(),
		Ops: [][]api.Op{
			{{Kind: api.OPut, Key: 1, Val: 5}, {Kind: api.OGet, Key: 1}, {Kind: api.OScan, Key: 9, To: 2}},
			{{Kind: api.OScan, Key: 2, To: 9}, {Kind: api.ODel, Key: 63}},
		},
		Picks: []int{0, 1, -9, 77, 1},
		Draws: []int{1, -3, 4},
	}
}

// twin: a script that is alike, in other memory, with spare room.
func twin(s api.Script) api.Script {
	t := api.Script{Conf: s.Conf, Picks: append(make([]int, 0, 9), s.Picks...), Draws: append(make([]int, 0, 9), s.Draws...)}
	for _, row := range s.Ops {
		t.Ops = append(t.Ops, append(make([]api.Op, 0, 9), row...))
	}
	return t
}

// rows: so many rows of so many gets.
func rows(n, ops int) [][]api.Op {
	l := make([][]api.Op, n)
	for i := range l {
		l[i] = make([]api.Op, ops)
		for j := range l[i] {
			l[i][j] = api.Op{Kind: api.OGet, Key: (i + j) % 64}
		}
	}
	return l
}

// far: numbers that nothing has.
func far() []int {
	return []int{math.MinInt, math.MinInt + 1, -1 << 40, -1 << 32, -8000, -64, -2, -1, 1<<20 + 1, 1 << 32, 1 << 40, math.MaxInt - 1, math.MaxInt}
}

func checkScript(t *testing.T, what string, s api.Script, want api.Errno) {
	t.Helper()
	err := Script(s)
	if want == api.OK {
		if err != nil {
			t.Errorf("P4.1: Script, %s: %v", what, err)
		}
		return
	}
	var told api.Errno
	if !errors.Is(err, want) || !errors.As(err, &told) || told != want {
		t.Errorf("P4.1: Script, %s: %v, not %v", what, err, want)
	}
}

func checkSame(t *testing.T, what string, a, b api.Script, want bool) {
	t.Helper()
	if Same(a, b) != want || Same(b, a) != want {
		t.Errorf("P4.1: Same, %s: %v, %v, not %v", what, Same(a, b), Same(b, a), want)
	}
}

// P4.1: Is

func TestIsHoldsEachFieldOfEachKind(t *testing.T) {
	for _, x := range []struct {
		what string
		make func(n int) api.Op
		most int
	}{
		{"the key of a put", func(n int) api.Op { return api.Op{Kind: api.OPut, Key: n} }, 63},
		{"the key of a put, its value the most", func(n int) api.Op { return api.Op{Kind: api.OPut, Key: n, Val: 1 << 20} }, 63},
		{"the value of a put", func(n int) api.Op { return api.Op{Kind: api.OPut, Val: n} }, 1 << 20},
		{"the value of a put, its key the most", func(n int) api.Op { return api.Op{Kind: api.OPut, Key: 63, Val: n} }, 1 << 20},
		{"the key of a delete", func(n int) api.Op { return api.Op{Kind: api.ODel, Key: n} }, 63},
		{"the key of a get", func(n int) api.Op { return api.Op{Kind: api.OGet, Key: n} }, 63},
		{"the key of a scan", func(n int) api.Op { return api.Op{Kind: api.OScan, Key: n} }, 63},
		{"the key of a scan to the last one", func(n int) api.Op { return api.Op{Kind: api.OScan, Key: n, To: 63} }, 63},
		{"the end of a scan", func(n int) api.Op { return api.Op{Kind: api.OScan, To: n} }, 63},
		{"the end of a scan from the last one", func(n int) api.Op { return api.Op{Kind: api.OScan, Key: 63, To: n} }, 63},
	} {
		for _, n := range []int{0, 1, 2, 31, 62, x.most - 1, x.most} {
			if !Is(x.make(n)) {
				t.Errorf("P4.1: %s: %d isn't", x.what, n)
			}
		}
		for _, n := range append(far(), -1, x.most+1, x.most+2, 2*x.most+1) {
			if Is(x.make(n)) {
				t.Errorf("P4.1: %s: %d is", x.what, n)
			}
		}
	}
}

func TestIsRefusesWhatAKindDoesntHave(t *testing.T) {
	for _, x := range []struct {
		what string
		make func(n int) api.Op
	}{
		{"the end of a put", func(n int) api.Op { return api.Op{Kind: api.OPut, Key: 5, Val: 6, To: n} }},
		{"the value of a delete", func(n int) api.Op { return api.Op{Kind: api.ODel, Key: 5, Val: n} }},
		{"the end of a delete", func(n int) api.Op { return api.Op{Kind: api.ODel, Key: 5, To: n} }},
		{"the value of a get", func(n int) api.Op { return api.Op{Kind: api.OGet, Key: 5, Val: n} }},
		{"the end of a get", func(n int) api.Op { return api.Op{Kind: api.OGet, Key: 5, To: n} }},
		{"the value of a scan", func(n int) api.Op { return api.Op{Kind: api.OScan, Key: 5, To: 6, Val: n} }},
	} {
		if !Is(x.make(0)) {
			t.Errorf("P4.1: %s: 0 isn't", x.what)
		}
		for _, n := range append(far(), 1, 2, 5, 6, 63, 64, 1<<20) {
			if Is(x.make(n)) {
				t.Errorf("P4.1: %s: %d is", x.what, n)
			}
		}
	}
}

func TestIsRefusesOtherKinds(t *testing.T) {
	for _, kind := range append(far(), 0, 5, 6, 7, 8, 256+api.OGet, 1<<32+api.OGet) {
		for _, o := range []api.Op{{}, {Key: 5}, {Key: 5, Val: 6}, {Key: 5, To: 6}, {Key: 63, Val: 63, To: 63}} {
			o.Kind = kind
			if Is(o) {
				t.Errorf("P4.1: %+v is", o)
			}
		}
	}
}

func TestIsTakesScansInWhateverOrder(t *testing.T) {
	for key := range 64 {
		for to := range 64 {
			if !Is(api.Op{Kind: api.OScan, Key: key, To: to}) {
				t.Errorf("P4.1: a scan from %d to %d isn't", key, to)
			}
		}
	}
}

// allowed: the chapter's words, kind by kind.
func allowed(o api.Op) bool {
	isKey := o.Key >= 0 && o.Key <= 63
	switch o.Kind {
	case 1:
		return isKey && o.Val >= 0 && o.Val <= 1<<20 && o.To == 0
	case 2, 3:
		return isKey && o.Val == 0 && o.To == 0
	case 4:
		return isKey && o.To >= 0 && o.To <= 63 && o.Val == 0
	}
	return false
}

func TestIsAtEachCornerAndBesideIt(t *testing.T) {
	numbers := append(far(), 0, 1, 62, 63, 64, 65, 1<<20-1, 1<<20)
	taken := 0
	for _, kind := range append(far(), 0, 1, 2, 3, 4, 5, 6) {
		for _, key := range numbers {
			for _, val := range numbers {
				for _, to := range numbers {
					o := api.Op{Kind: kind, Key: key, Val: val, To: to}
					if Is(o) != allowed(o) {
						t.Errorf("P4.1: Is(%+v): %v", o, Is(o))
					}
					if allowed(o) {
						taken++
					}
				}
			}
		}
	}
	if want := 4*8 + 4 + 4 + 4*4; taken != want {
		t.Errorf("%d ops were well-formed, not %d", taken, want)
	}
}

// P4.1: Script

func TestScriptTakesOrdinaryOnes(t *testing.T) {
	checkScript(t, "some", some(), api.OK)
	for _, x := range []struct {
		what  string
		alter func(s *api.Script)
	}{
		{"no rows", func(s *api.Script) { s.Ops = nil }},
		{"an empty list of rows", func(s *api.Script) { s.Ops = [][]api.Op{} }},
		{"fewer rows", func(s *api.Script) { s.Ops = s.Ops[:1] }},
		{"rows without ops", func(s *api.Script) { s.Ops = [][]api.Op{nil, {}} }},
		{"no picks", func(s *api.Script) { s.Picks = nil }},
		{"no draws", func(s *api.Script) { s.Draws = nil }},
		{"a memory alone", func(s *api.Script) { *s = api.Script{Conf: s.Conf} }},
	} {
		s := some()
		x.alter(&s)
		checkScript(t, x.what, s, api.OK)
	}
}

func TestScriptAsksPlace(t *testing.T) {
	for _, x := range []struct {
		conf api.Conf
		want api.Errno
	}{
		{api.Conf{}, api.ErrForm},
		{api.Conf{Threads: 0, Cap: 4, Words: 1000, Versions: 100}, api.ErrForm},
		{api.Conf{Threads: 9, Cap: 16, Words: 1000, Versions: 100}, api.ErrForm},
		{api.Conf{Threads: 2, Cap: 3, Words: 1000, Versions: 100}, api.ErrForm},
		{api.Conf{Threads: 2, Cap: 17, Words: 1000, Versions: 100}, api.ErrForm},
		{api.Conf{Threads: 2, Cap: 4, Words: 0, Versions: 100}, api.ErrForm},
		{api.Conf{Threads: 2, Cap: 4, Words: 20001, Versions: 100}, api.ErrForm},
		{api.Conf{Threads: 2, Cap: 4, Words: 1000, Versions: 0}, api.ErrForm},
		{api.Conf{Threads: 2, Cap: 4, Words: 1000, Versions: 1<<20 + 1}, api.ErrForm},
		{api.Conf{Threads: 2, Cap: 4, Words: 34, Versions: 100}, api.ErrFull},
		{api.Conf{Threads: 2, Cap: 4, Words: 35, Versions: 100}, api.OK},
		{api.Conf{Threads: 8, Cap: 16, Words: 20000, Versions: 1 << 20}, api.OK},
		{api.Conf{Threads: math.MaxInt, Cap: math.MaxInt, Words: math.MaxInt, Versions: math.MaxInt}, api.ErrForm},
		{api.Conf{Threads: math.MinInt, Cap: math.MinInt, Words: math.MinInt, Versions: math.MinInt}, api.ErrForm},
	} {
		s := some()
		s.Conf = x.conf
		checkScript(t, "another memory", s, x.want)
		checkScript(t, "a memory alone", api.Script{Conf: x.conf}, x.want)
	}
}

func TestScriptHoldsRows(t *testing.T) {
	for n := 1; n <= 8; n++ {
		for more := -n; more <= 3; more++ {
			want := api.OK
			if more > 0 {
				want = api.ErrLarge
			}
			for _, ops := range []int{0, 1, 3} {
				checkScript(t, "rows", api.Script{Conf: threads(n), Ops: rows(n+more, ops)}, want)
			}
			checkScript(t, "nil rows", api.Script{Conf: threads(n), Ops: make([][]api.Op, n+more)}, want)
		}
	}
	checkScript(t, "far too many rows", api.Script{Conf: threads(8), Ops: make([][]api.Op, 5000)}, api.ErrLarge)
}

func TestScriptHoldsOpsOfARow(t *testing.T) {
	checkScript(t, "as many rows and ops as may be", api.Script{Conf: threads(8), Ops: rows(8, 1000)}, api.OK)
	for _, x := range []struct {
		ops  int
		want api.Errno
	}{{999, api.OK}, {1000, api.OK}, {1001, api.ErrLarge}, {1002, api.ErrLarge}, {8000, api.ErrLarge}, {70000, api.ErrLarge}} {
		for row := range 8 {
			s := api.Script{Conf: threads(8), Ops: rows(8, 2)}
			s.Ops[row] = rows(1, x.ops)[0]
			checkScript(t, "a long row", s, x.want)
		}
		checkScript(t, "one row", api.Script{Conf: threads(1), Ops: rows(1, x.ops)}, x.want)
	}
}

func TestScriptHoldsPicks(t *testing.T) {
	for _, x := range []struct {
		picks int
		want  api.Errno
	}{{0, api.OK}, {1, api.OK}, {19999, api.OK}, {20000, api.OK}, {20001, api.ErrLarge}, {20002, api.ErrLarge}, {100000, api.ErrLarge}} {
		s := some()
		s.Picks = make([]int, x.picks)
		checkScript(t, "picks", s, x.want)
		checkScript(t, "picks without rows", api.Script{Conf: two(), Picks: s.Picks}, x.want)
	}
}

func TestScriptTakesWhateverPicksAndDraws(t *testing.T) {
	for _, n := range append(far(), 0, 1, 2, 7, 8, 9) {
		s := some()
		s.Picks, s.Draws = []int{0, n, n}, []int{n, 1}
		checkScript(t, "a pick, a draw", s, api.OK)
	}
	for _, draws := range []int{1, 1000, 1001, 8001, 20000, 20001, 100000} {
		s := some()
		s.Draws = make([]int, draws)
		checkScript(t, "many draws", s, api.OK)
	}
}

// illFormed: ops that aren't Is.
func illFormed() []api.Op {
	return []api.Op{
		{}, {Kind: -1}, {Kind: 5, Key: 1},
		{Kind: api.OPut, Key: 64}, {Kind: api.OPut, Key: -1}, {Kind: api.OPut, Val: -1}, {Kind: api.OPut, Val: 1<<20 + 1}, {Kind: api.OPut, To: 1},
		{Kind: api.ODel, Key: 64}, {Kind: api.ODel, Val: 1}, {Kind: api.ODel, To: 1},
		{Kind: api.OGet, Key: -1}, {Kind: api.OGet, Val: 1}, {Kind: api.OGet, To: 1},
		{Kind: api.OScan, Key: 64}, {Kind: api.OScan, To: 64}, {Kind: api.OScan, To: -1}, {Kind: api.OScan, Val: 1},
	}
}

func TestScriptAsksEachOp(t *testing.T) {
	for _, o := range illFormed() {
		for row := range some().Ops {
			for i := range some().Ops[row] {
				s := some()
				s.Ops[row][i] = o
				checkScript(t, "an ill-formed op", s, api.ErrForm)
			}
		}
	}
	for _, at := range [][2]int{{0, 0}, {0, 999}, {3, 500}, {7, 0}, {7, 999}} {
		s := api.Script{Conf: threads(8), Ops: rows(8, 1000)}
		s.Ops[at[0]][at[1]].Key = 64
		checkScript(t, "one ill-formed op of 8000", s, api.ErrForm)
	}
}

// TestScriptNamesErrorsInOrder: place's, whatever else there is; then what is too large; then ops that are ill-formed.
func TestScriptNamesErrorsInOrder(t *testing.T) {
	memories := map[api.Errno]api.Conf{
		api.ErrForm: {Threads: 2, Cap: 3, Words: 1000, Versions: 100},
		api.ErrFull: {Threads: 2, Cap: 4, Words: 34, Versions: 100},
	}
	large := []func(s *api.Script){
		func(s *api.Script) { s.Ops = append(s.Ops, nil) },
		func(s *api.Script) { s.Ops = append(s.Ops, []api.Op{{}}) },
		func(s *api.Script) { s.Ops[1] = rows(1, 1001)[0] },
		func(s *api.Script) { s.Ops[1] = make([]api.Op, 1001) },
		func(s *api.Script) { s.Picks = make([]int, 20001) },
	}
	for i, enlarge := range large {
		for _, spoil := range []bool{false, true} {
			s := some()
			enlarge(&s)
			if spoil {
				s.Ops[0][0] = illFormed()[i]
			}
			checkScript(t, "too large", s, api.ErrLarge)
			for want, c := range memories {
				s.Conf = c
				checkScript(t, "too large, of no memory", s, want)
			}
		}
	}
	s := some()
	s.Ops[0][0] = api.Op{}
	checkScript(t, "an ill-formed op", s, api.ErrForm)
	s.Conf = memories[api.ErrFull]
	checkScript(t, "an ill-formed op, of no memory", s, api.ErrFull)
}

// P4.1: Same

func TestSameOfThoseThatAreAlike(t *testing.T) {
	wrong := some()
	wrong.Conf.Threads, wrong.Ops[0][0].Kind = -1, 99
	for _, s := range []api.Script{
		{}, some(), wrong,
		{Conf: two()},
		{Ops: [][]api.Op{nil}},
		{Picks: []int{0}},
		{Draws: []int{0}},
		{Conf: threads(8), Ops: rows(8, 1000), Picks: make([]int, 20000), Draws: make([]int, 20000)},
		{Conf: threads(8), Ops: rows(9, 1001), Picks: make([]int, 20001), Draws: make([]int, 20001)},
	} {
		checkSame(t, "itself", s, s, true)
		checkSame(t, "a twin", s, twin(s), true)
	}
}

func TestSameTakesNilForEmpty(t *testing.T) {
	checkSame(t, "nil and empty lists", api.Script{}, api.Script{Ops: [][]api.Op{}, Picks: []int{}, Draws: []int{}}, true)
	checkSame(t, "nil and empty rows", api.Script{Ops: [][]api.Op{nil, {}}}, api.Script{Ops: [][]api.Op{{}, nil}}, true)
}

// alterations: each changes one part of some alone.
func alterations() map[string]func(s *api.Script) {
	return map[string]func(s *api.Script){
		"threads":               func(s *api.Script) { s.Conf.Threads = 1 },
		"cells":                 func(s *api.Script) { s.Conf.Cap = 5 },
		"words":                 func(s *api.Script) { s.Conf.Words = 1001 },
		"versions":              func(s *api.Script) { s.Conf.Versions = 99 },
		"the first op's kind":   func(s *api.Script) { s.Ops[0][0].Kind = api.ODel },
		"the first op's key":    func(s *api.Script) { s.Ops[0][0].Key = 2 },
		"the first op's value":  func(s *api.Script) { s.Ops[0][0].Val = 6 },
		"the first op's end":    func(s *api.Script) { s.Ops[0][0].To = 1 },
		"an inner op's kind":    func(s *api.Script) { s.Ops[0][1].Kind = api.ODel },
		"the last op's kind":    func(s *api.Script) { s.Ops[1][1].Kind = api.OGet },
		"the last op's key":     func(s *api.Script) { s.Ops[1][1].Key = 62 },
		"the last op's value":   func(s *api.Script) { s.Ops[1][1].Val = 1 },
		"a scan's end":          func(s *api.Script) { s.Ops[1][0].To = 8 },
		"ops in another order":  func(s *api.Script) { s.Ops[0][0], s.Ops[0][1] = s.Ops[0][1], s.Ops[0][0] },
		"rows in another order": func(s *api.Script) { s.Ops[0], s.Ops[1] = s.Ops[1], s.Ops[0] },
		"an op of another row": func(s *api.Script) {
			s.Ops[0], s.Ops[1] = s.Ops[0][:2], append([]api.Op{s.Ops[0][2]}, s.Ops[1]...)
		},
		"one op less":               func(s *api.Script) { s.Ops[0] = s.Ops[0][:2] },
		"one op more":               func(s *api.Script) { s.Ops[1] = append(s.Ops[1], api.Op{}) },
		"a row without ops":         func(s *api.Script) { s.Ops[1] = nil },
		"one row less":              func(s *api.Script) { s.Ops = s.Ops[:1] },
		"one row more":              func(s *api.Script) { s.Ops = append(s.Ops, nil) },
		"one row more, ahead":       func(s *api.Script) { s.Ops = append([][]api.Op{nil}, s.Ops...) },
		"no rows":                   func(s *api.Script) { s.Ops = nil },
		"the first pick":            func(s *api.Script) { s.Picks[0] = 1 },
		"a pick":                    func(s *api.Script) { s.Picks[2] = 9 },
		"the last pick":             func(s *api.Script) { s.Picks[4] = 0 },
		"one pick less":             func(s *api.Script) { s.Picks = s.Picks[:4] },
		"one pick more":             func(s *api.Script) { s.Picks = append(s.Picks, 0) },
		"no picks":                  func(s *api.Script) { s.Picks = nil },
		"picks in another order":    func(s *api.Script) { s.Picks[0], s.Picks[1] = s.Picks[1], s.Picks[0] },
		"the first draw":            func(s *api.Script) { s.Draws[0] = 3 },
		"the last draw":             func(s *api.Script) { s.Draws[2] = 5 },
		"one draw less":             func(s *api.Script) { s.Draws = s.Draws[:2] },
		"one draw more":             func(s *api.Script) { s.Draws = append(s.Draws, 0) },
		"no draws":                  func(s *api.Script) { s.Draws = nil },
		"draws in another order":    func(s *api.Script) { s.Draws[0], s.Draws[1] = s.Draws[1], s.Draws[0] },
		"picks and draws exchanged": func(s *api.Script) { s.Picks, s.Draws = s.Draws, s.Picks },
	}
}

func TestSameOfThoseThatDifferInOnePartAlone(t *testing.T) {
	changes := alterations()
	for what, alter := range changes {
		s := some()
		alter(&s)
		checkSame(t, what, s, some(), false)
		checkSame(t, what+", both", s, twin(s), true)
		for other, alterToo := range changes {
			r := some()
			alterToo(&r)
			checkSame(t, what+" and "+other, s, r, what == other)
		}
	}
}

func TestSameOfLongScripts(t *testing.T) {
	long := api.Script{Conf: threads(8), Ops: rows(8, 1000), Picks: make([]int, 20000), Draws: make([]int, 20000)}
	op, pick, draw := twin(long), twin(long), twin(long)
	op.Ops[7][999].Key++
	pick.Picks[19999]++
	draw.Draws[19999]++
	for _, s := range []api.Script{op, pick, draw} {
		checkSame(t, "the last part of a long one", long, s, false)
	}
}

// P4.2

func TestWriterIsThreadTimesMaxOpsAndIndex(t *testing.T) {
	for _, x := range []struct{ thread, index, want int }{
		{1, 2, 1002}, // the chapter's example
		{0, 0, 0}, {0, 1, 1}, {0, 999, 999}, {1, 0, 1000}, {1, 999, 1999}, {2, 0, 2000}, {3, 14, 3014}, {7, 0, 7000}, {7, 998, 7998}, {7, 999, 7999},
		{-1, 0, -1}, {-1, 999, -1}, {8, 0, -1}, {8, 999, -1}, {9, 5, -1},
		{0, -1, -1}, {1, -1, -1}, {7, -1, -1}, {0, 1000, -1}, {1, 1000, -1}, {7, 1000, -1}, {0, 1002, -1},
		{-1, -1, -1}, {-1, 1000, -1}, {8, -1, -1}, {8, 1000, -1}, {-1, 1005, -1}, {8, -500, -1},
		{1 << 61, 5, -1}, {-1 << 61, 5, -1}, // times MaxOps they go round to 0
	} {
		if got := Writer(x.thread, x.index); got != x.want {
			t.Errorf("P4.2: Writer(%d, %d): %d, not %d", x.thread, x.index, got, x.want)
		}
	}
}

func TestWriterOfWhatIsFarPast(t *testing.T) {
	for _, n := range far() {
		for _, m := range append(far(), 0, 5, 7, 999) {
			if Writer(n, m) != -1 || Writer(m, n) != -1 {
				t.Errorf("P4.2: Writer of %d and %d: %d, %d", n, m, Writer(n, m), Writer(m, n))
			}
		}
	}
}

func TestOfTellsThreadAndIndex(t *testing.T) {
	for _, x := range []struct{ writer, thread, index int }{
		{0, 0, 0}, {1, 0, 1}, {999, 0, 999}, {1000, 1, 0}, {1002, 1, 2}, {1999, 1, 999}, {2000, 2, 0}, {6999, 6, 999}, {7000, 7, 0}, {7998, 7, 998}, {7999, 7, 999},
		{-1, -1, -1}, {-2, -1, -1}, {-999, -1, -1}, {-1000, -1, -1}, {-1001, -1, -1}, {8000, -1, -1}, {8001, -1, -1}, {8999, -1, -1}, {9000, -1, -1},
	} {
		if thread, index := Of(x.writer); thread != x.thread || index != x.index {
			t.Errorf("P4.2: Of(%d): %d, %d, not %d, %d", x.writer, thread, index, x.thread, x.index)
		}
	}
	for _, n := range far() {
		if thread, index := Of(n); thread != -1 || index != -1 {
			t.Errorf("P4.2: Of(%d): %d, %d", n, thread, index)
		}
	}
}

func checkAt(t *testing.T, s api.Script, writer int, want api.Op, there bool) {
	t.Helper()
	if o, ok := At(s, writer); o != want || ok != there {
		t.Errorf("P4.2: At %d: %+v, %v, not %+v, %v", writer, o, ok, want, there)
	}
}

func TestAtTellsThatOp(t *testing.T) {
	for writer, want := range map[int]api.Op{
		0:    {Kind: api.OPut, Key: 1, Val: 5},
		1:    {Kind: api.OGet, Key: 1},
		2:    {Kind: api.OScan, Key: 9, To: 2},
		1000: {Kind: api.OScan, Key: 2, To: 9},
		1001: {Kind: api.ODel, Key: 63},
	} {
		checkAt(t, some(), writer, want, true)
	}
	for _, writer := range append(far(), 3, 4, 999, 1002, 1999, 2000, 2001, 7999, 8000, 8001, 9000) {
		checkAt(t, some(), writer, api.Op{}, false)
		checkAt(t, api.Script{}, writer, api.Op{}, false)
	}
}

func TestAtOfTheFirstAndTheLast(t *testing.T) {
	s := api.Script{Conf: threads(8), Ops: rows(8, 1000)}
	for row := range s.Ops {
		for i, o := range s.Ops[row] {
			checkAt(t, s, 1000*row+i, o, true)
		}
		s.Ops[row] = s.Ops[row][:999]
		checkAt(t, s, 1000*row+998, s.Ops[row][998], true)
		checkAt(t, s, 1000*row+999, api.Op{}, false) // it lies in the row's spare room
	}
	s.Ops = s.Ops[:7]
	checkAt(t, s, 6998, s.Ops[6][998], true)
	checkAt(t, s, 7000, api.Op{}, false)
}

// TestAtOfIllFormedScripts: it tells what lies there, also if Script refuses it; what has no number isn't told.
func TestAtOfIllFormedScripts(t *testing.T) {
	odd := api.Op{Kind: 9, Key: -5, Val: -6, To: 1 << 40}
	s := api.Script{Ops: [][]api.Op{{odd, {}}, nil, {odd}}}
	checkAt(t, s, 0, odd, true)
	checkAt(t, s, 1, api.Op{}, true)
	checkAt(t, s, 2, api.Op{}, false)
	checkAt(t, s, 1000, api.Op{}, false)
	checkAt(t, s, 2000, odd, true)

	large := api.Script{Conf: threads(8), Ops: rows(9, 1001)}
	checkAt(t, large, 999, large.Ops[0][999], true)
	checkAt(t, large, 1000, large.Ops[1][0], true)
	checkAt(t, large, 7999, large.Ops[7][999], true)
	checkAt(t, large, 8000, api.Op{}, false)
	checkAt(t, large, -1, api.Op{}, false)
}

// P4.3

func TestEachOpHasANumber(t *testing.T) {
	s := api.Script{Conf: threads(8), Ops: rows(8, 1000)}
	for row := range s.Ops {
		for i := range s.Ops[row] {
			s.Ops[row][i] = api.Op{Kind: api.OPut, Key: i % 64, Val: 1000*row + i}
		}
	}
	owner := map[int][2]int{}
	for row := range s.Ops {
		for i, want := range s.Ops[row] {
			w := Writer(row, i)
			if other, taken := owner[w]; taken {
				t.Errorf("P4.3: %d is the number of %d, %d and of %v", w, row, i, other)
			}
			owner[w] = [2]int{row, i}
			if thread, index := Of(w); thread != row || index != i {
				t.Errorf("P4.3: Of(Writer(%d, %d)): %d, %d", row, i, thread, index)
			}
			if o, ok := At(s, w); !ok || o != want {
				t.Errorf("P4.3: at Writer(%d, %d): %+v, %v", row, i, o, ok)
			}
		}
	}
	for w := range 8000 {
		if _, taken := owner[w]; !taken {
			t.Errorf("P4.3: %d is nobody's number", w)
		}
	}
}

func TestOtherNumbersAreNoOps(t *testing.T) {
	for w := -3000; w <= 12000; w++ {
		thread, index := Of(w)
		if back := Writer(thread, index); w >= 0 && w < 8000 && back != w || (w < 0 || w >= 8000) && (thread != -1 || index != -1 || back != -1) {
			t.Errorf("P4.3: of %d: %d, %d, back %d", w, thread, index, back)
		}
	}
}

// What holds everywhere: what is handed in isn't changed, and answers hang on nothing else.

func TestNothingIsChanged(t *testing.T) {
	s := some()
	spare := func() []int {
		return slices.Concat(s.Picks[:cap(s.Picks)], s.Draws[:cap(s.Draws)])
	}
	s.Picks, s.Draws = append(s.Picks, 41, 42)[:5], append(s.Draws, 43, 44)[:3]
	s.Ops[0] = append(s.Ops[0], api.Op{Kind: 45})[:3]
	was, before := twin(s), spare()
	behind := slices.Clone(s.Ops[0][:cap(s.Ops[0])])
	for range 2 {
		checkScript(t, "some", s, api.OK)
		checkSame(t, "some", s, was, true)
		checkAt(t, s, 3, api.Op{}, false)
		checkAt(t, s, 2, api.Op{Kind: api.OScan, Key: 9, To: 2}, true)
	}
	if !slices.Equal(spare(), before) || !slices.Equal(s.Ops[0][:cap(s.Ops[0])], behind) {
		t.Error("the spare room was changed")
	}
	if len(s.Ops) != 2 || !slices.Equal(s.Ops[0], was.Ops[0]) || !slices.Equal(s.Ops[1], was.Ops[1]) || !slices.Equal(s.Picks, was.Picks) || !slices.Equal(s.Draws, was.Draws) || s.Conf != was.Conf {
		t.Error("the script was changed")
	}
}

// TestAnswersFollowWhatIsHandedIn: nothing is kept of an earlier script.
func TestAnswersFollowWhatIsHandedIn(t *testing.T) {
	s, r := some(), some()
	checkSame(t, "ahead of a change", s, r, true)
	s.Ops[0][0].Val = 7
	checkSame(t, "behind a change", s, r, false)
	checkAt(t, s, 0, api.Op{Kind: api.OPut, Key: 1, Val: 7}, true)
	checkAt(t, r, 0, api.Op{Kind: api.OPut, Key: 1, Val: 5}, true)
	s.Ops[0][0].Val = -1
	checkScript(t, "behind a change", s, api.ErrForm)
	checkScript(t, "the other one", r, api.OK)
}
