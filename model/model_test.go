package model

import (
	"math"
	"reflect"
	"slices"
	"testing"

	"armillary/api"
)

func put(key, val int) api.Op { return api.Op{Kind: api.OPut, Key: key, Val: val} }
func del(key int) api.Op      { return api.Op{Kind: api.ODel, Key: key} }
func get(key int) api.Op      { return api.Op{Kind: api.OGet, Key: key} }
func scan(key, to int) api.Op { return api.Op{Kind: api.OScan, Key: key, To: to} }

// done: the answer to a put, a delete.
func done() api.Answer { return api.Answer{Writer: -1} }

// got: the answer to a get that found something.
func got(val, writer int) api.Answer { return api.Answer{Found: true, Val: val, Writer: writer} }

// none: the answer to a get that found nothing.
func none(writer int) api.Answer { return api.Answer{Writer: writer} }

// seen: the answer to a scan.
func seen(l ...api.Pair) api.Answer { return api.Answer{Writer: -1, Pairs: l} }

// refused: the answer to what is no op.
func refused() api.Answer { return api.Answer{Code: 10} }

// same: all parts; a nil list and an empty one are the same.
func same(a, b api.Answer) bool {
	if !slices.Equal(a.Pairs, b.Pairs) {
		return false
	}
	a.Pairs, b.Pairs = nil, nil
	return reflect.DeepEqual(a, b)
}

func does(t *testing.T, m *Map, o api.Op, writer int, want api.Answer) {
	t.Helper()
	if a := m.Do(o, writer); !same(a, want) {
		t.Errorf("P5.1: Do(%+v, %d): %+v, not %+v", o, writer, a, want)
	}
}

// has: what Get, Writer and a get tell of a key that has a value.
func has(t *testing.T, m *Map, key, val, writer int) {
	t.Helper()
	if v, found := m.Get(key); v != val || !found {
		t.Errorf("P5.1: Get(%d): %d, %v, not %d, true", key, v, found, val)
	}
	if w := m.Writer(key); w != writer {
		t.Errorf("P5.1: Writer(%d): %d, not %d", key, w, writer)
	}
	does(t, m, get(key), 4321, got(val, writer))
}

// lacks: what they tell of a key without a value.
func lacks(t *testing.T, m *Map, key, writer int) {
	t.Helper()
	if v, found := m.Get(key); v != 0 || found {
		t.Errorf("P5.1: Get(%d): %d, %v, not 0, false", key, v, found)
	}
	if w := m.Writer(key); w != writer {
		t.Errorf("P5.1: Writer(%d): %d, not %d", key, w, writer)
	}
	does(t, m, get(key), 4321, none(writer))
}

// all: what All, and a scan of all keys, tell.
func all(t *testing.T, m *Map, want ...api.Pair) {
	t.Helper()
	if l := m.All(); !slices.Equal(l, want) {
		t.Errorf("P5.1: All: %v, not %v", l, want)
	}
	does(t, m, scan(0, api.MaxKey), 4321, seen(want...))
}

// told: all that a map tells of all keys.
func told(m *Map) [64]api.Answer {
	var l [64]api.Answer
	for key := range l {
		val, found := m.Get(key)
		l[key] = api.Answer{Found: found, Val: val, Writer: m.Writer(key)}
	}
	return l
}

// some: a map of some keys: 0, 9, 20, 63; 10 and 40 are deleted.
func some() *Map {
	m := New()
	for i, o := range []api.Op{put(63, 3), put(9, 0), put(10, 8), del(40), put(20, api.MaxVal), put(0, 5), del(10)} {
		m.Do(o, 100+i)
	}
	return m
}

// P5.1: New

func TestANewMapHasNothing(t *testing.T) {
	m := New()
	all(t, m)
	for key := range 64 {
		lacks(t, m, key, -1)
	}
}

func TestEachNewMapIsAnother(t *testing.T) {
	a, b := New(), New()
	a.Do(put(3, 5), 7)
	lacks(t, b, 3, -1)
	b.Do(put(3, 6), 8)
	has(t, a, 3, 5, 7)
	has(t, b, 3, 6, 8)
}

func TestAMapThatNewDidNotMakeHasNothing(t *testing.T) {
	var m Map
	all(t, &m)
	lacks(t, &m, 3, -1)
	c := m.Copy()
	does(t, c, put(3, 5), 7, done())
	has(t, c, 3, 5, 7)
	lacks(t, &m, 3, -1)
	does(t, &m, del(3), 8, done())
	lacks(t, &m, 3, 8)
}

// P5.1: Do of a put

func TestAPutKeyHasThatValue(t *testing.T) {
	m := New()
	does(t, m, put(3, 5), 7, done())
	has(t, m, 3, 5, 7)
	lacks(t, m, 2, -1)
	lacks(t, m, 4, -1)
	all(t, m, api.Pair{Key: 3, Val: 5})
}

func TestTheFirstAndTheLastKeyAndValue(t *testing.T) {
	m := New()
	does(t, m, put(0, 0), 1, done())
	does(t, m, put(63, 1<<20), 2, done())
	has(t, m, 0, 0, 1)
	has(t, m, 63, 1<<20, 2)
	all(t, m, api.Pair{Key: 0, Val: 0}, api.Pair{Key: 63, Val: 1 << 20})
	does(t, m, put(0, 1<<20), 3, done())
	does(t, m, put(63, 0), 4, done())
	has(t, m, 0, 1<<20, 3)
	has(t, m, 63, 0, 4)
}

func TestEachKeyHasItsOwn(t *testing.T) {
	m := New()
	var want []api.Pair
	for key := range 64 {
		does(t, m, put(63-key, 1000-63+key), 7000-63+key, done())
		want = append(want, api.Pair{Key: key, Val: 1000 - key})
	}
	for key := range 64 {
		has(t, m, key, 1000-key, 7000-key)
	}
	all(t, m, want...)
}

func TestTheLastPutCounts(t *testing.T) {
	m := New()
	does(t, m, put(3, 5), 7, done())
	does(t, m, put(3, 9), 6, done())
	has(t, m, 3, 9, 6)
	does(t, m, put(3, 2), 8, done())
	has(t, m, 3, 2, 8)
	does(t, m, put(3, 2), 1, done())
	has(t, m, 3, 2, 1)
	all(t, m, api.Pair{Key: 3, Val: 2})
}

// P5.1: Do of a delete

func TestADeletedKeyHasNoValueButAWriter(t *testing.T) {
	m := New()
	does(t, m, put(3, 5), 7, done())
	does(t, m, put(4, 6), 8, done())
	does(t, m, del(3), 11, done())
	lacks(t, m, 3, 11)
	has(t, m, 4, 6, 8)
	all(t, m, api.Pair{Key: 4, Val: 6})
}

func TestAKeyThatWasNotPutIsDeletedToo(t *testing.T) {
	m := New()
	for i, key := range []int{0, 40, 63} {
		does(t, m, del(key), 20+i, done())
		lacks(t, m, key, 20+i)
	}
	does(t, m, del(40), 30, done())
	lacks(t, m, 40, 30)
	lacks(t, m, 41, -1)
	all(t, m)
}

func TestAKeyIsPutDeletedAndPutAgain(t *testing.T) {
	for _, key := range []int{0, 31, 63} {
		m := New()
		does(t, m, put(key, 5), 1, done())
		does(t, m, del(key), 2, done())
		lacks(t, m, key, 2)
		does(t, m, put(key, 0), 3, done())
		has(t, m, key, 0, 3)
		all(t, m, api.Pair{Key: key, Val: 0})
		does(t, m, del(key), 4, done())
		lacks(t, m, key, 4)
		all(t, m)
	}
}

// P5.1: writers

func TestAWriterIsToldAsItIs(t *testing.T) {
	for _, w := range []int{math.MinInt, -1 << 40, -8000, -2, -1, 0, 1, 7999, 8000, 1 << 40, math.MaxInt} {
		m := New()
		does(t, m, put(3, 5), w, done())
		has(t, m, 3, 5, w)
		does(t, m, del(3), w, done())
		lacks(t, m, 3, w)
	}
}

func TestAGetAndAScanWriteNothing(t *testing.T) {
	m := some()
	before := told(m)
	for key := range 64 {
		m.Do(get(key), 55)
		m.Do(scan(0, key), 56)
		m.Do(scan(key, 0), 57)
	}
	m.All()
	m.Copy()
	if !reflect.DeepEqual(told(m), before) {
		t.Errorf("P5.1: gets and scans have written: %v, not %v", told(m), before)
	}
}

// P5.1: Do of a scan

func TestAScanTellsItsRangeRising(t *testing.T) {
	p := func(key, val int) api.Pair { return api.Pair{Key: key, Val: val} }
	for _, c := range []struct {
		key, to int
		want    []api.Pair
	}{
		{0, 63, []api.Pair{p(0, 5), p(9, 0), p(20, 1<<20), p(63, 3)}},
		{0, 62, []api.Pair{p(0, 5), p(9, 0), p(20, 1<<20)}},
		{1, 63, []api.Pair{p(9, 0), p(20, 1<<20), p(63, 3)}},
		{0, 0, []api.Pair{p(0, 5)}},
		{63, 63, []api.Pair{p(63, 3)}},
		{9, 9, []api.Pair{p(9, 0)}},
		{9, 20, []api.Pair{p(9, 0), p(20, 1<<20)}},
		{10, 20, []api.Pair{p(20, 1<<20)}},
		{9, 19, []api.Pair{p(9, 0)}},
		{10, 19, nil},
		{10, 10, nil},
		{40, 40, nil},
		{21, 62, nil},
		{8, 8, nil},
		{20, 9, nil},
		{10, 9, nil},
		{63, 0, nil},
		{1, 0, nil},
		{63, 62, nil},
	} {
		m := some()
		does(t, m, scan(c.key, c.to), 55, seen(c.want...))
	}
}

func TestAScanTellsOfEachRangeJustItsKeys(t *testing.T) {
	m := New()
	for key := range 64 {
		m.Do(put(key, 2*key), key)
		if key%3 == 1 {
			m.Do(del(key), key)
		}
	}
	for from := range 64 {
		for to := range 64 {
			var want []api.Pair
			for key := from; key <= to; key++ {
				if key%3 != 1 {
					want = append(want, api.Pair{Key: key, Val: 2 * key})
				}
			}
			does(t, m, scan(from, to), 9, seen(want...))
		}
	}
}

// P5.1: Get and Writer

func TestOtherKeysHaveNothing(t *testing.T) {
	m := New()
	for key := range 64 {
		m.Do(put(key, 7), 8)
	}
	for _, key := range []int{math.MinInt, -1 << 32, -64, -2, -1, 64, 65, 127, 128, 1 << 32, math.MaxInt} {
		if v, found := m.Get(key); v != 0 || found {
			t.Errorf("P5.1: Get(%d): %d, %v, not 0, false", key, v, found)
		}
		if w := m.Writer(key); w != -1 {
			t.Errorf("P5.1: Writer(%d): %d, not -1", key, w)
		}
	}
}

// P5.1: wrong ops

// wrong: ops that aren't Is, of each kind and of none.
func wrong() []api.Op {
	l := []api.Op{{}, {Key: 3}, {Kind: 5}, {Kind: 5, Key: 3}, {Kind: -1}, {Kind: math.MinInt}, {Kind: math.MaxInt, Key: 3}}
	for _, n := range []int{math.MinInt, -1 << 32, -1, 64, 1 << 32, math.MaxInt} {
		l = append(l, put(n, 1), del(n), get(n), scan(n, 3), scan(3, n))
	}
	for _, n := range []int{math.MinInt, -1, 1<<20 + 1, 1 << 32, math.MaxInt} {
		l = append(l, put(9, n))
	}
	for _, n := range []int{-1, 1, 63} {
		l = append(l,
			api.Op{Kind: api.OPut, Key: 9, Val: 1, To: n},
			api.Op{Kind: api.ODel, Key: 9, Val: n},
			api.Op{Kind: api.ODel, Key: 9, To: n},
			api.Op{Kind: api.OGet, Key: 9, Val: n},
			api.Op{Kind: api.OGet, Key: 9, To: n},
			api.Op{Kind: api.OScan, Key: 9, Val: n, To: 20},
		)
	}
	return l
}

func TestAWrongOpIsRefusedAndChangesNothing(t *testing.T) {
	for _, o := range wrong() {
		m := some()
		before := told(m)
		does(t, m, o, 77, refused())
		if !reflect.DeepEqual(told(m), before) {
			t.Errorf("P5.1: Do(%+v) has changed the map: %v, not %v", o, told(m), before)
		}
		if len(m.All()) != 4 {
			t.Errorf("P5.1: Do(%+v) has changed the map: %v", o, m.All())
		}
	}
}

func TestAWrongOpLeavesANewMapNew(t *testing.T) {
	m := New()
	for _, o := range wrong() {
		does(t, m, o, 77, refused())
	}
	all(t, m)
	for key := -1; key <= 64; key++ {
		if w := m.Writer(key); w != -1 {
			t.Errorf("P5.1: Writer(%d) behind wrong ops: %d, not -1", key, w)
		}
	}
	does(t, m, put(9, 1), 5, done())
	has(t, m, 9, 1, 5)
}

// P5.1: Copy

func TestACopyIsAlike(t *testing.T) {
	for _, m := range []*Map{New(), some()} {
		c := m.Copy()
		if c == m {
			t.Errorf("P5.1: Copy: the map itself")
		}
		if !reflect.DeepEqual(told(c), told(m)) || !slices.Equal(c.All(), m.All()) {
			t.Errorf("P5.1: Copy: %v, not %v", told(c), told(m))
		}
	}
	c := some().Copy()
	has(t, c, 9, 0, 101)
	lacks(t, c, 40, 103)
	lacks(t, c, 10, 106)
	lacks(t, c, 11, -1)
}

func TestWhatIsDoneToACopyIsItsOwn(t *testing.T) {
	m := some()
	before := told(m)
	c := m.Copy()
	does(t, c, put(9, 9), 1, done())
	does(t, c, put(10, 9), 2, done())
	does(t, c, put(11, 9), 3, done())
	does(t, c, del(0), 4, done())
	does(t, c, del(12), 5, done())
	if !reflect.DeepEqual(told(m), before) {
		t.Errorf("P5.1: what was done to a copy has changed the map: %v, not %v", told(m), before)
	}
	has(t, c, 9, 9, 1)
	has(t, c, 10, 9, 2)
	has(t, c, 11, 9, 3)
	lacks(t, c, 0, 4)
	lacks(t, c, 12, 5)
}

func TestWhatIsDoneBehindACopyIsTheMapsOwn(t *testing.T) {
	m := some()
	before := told(m)
	c, d := m.Copy(), m.Copy()
	for key := range 64 {
		does(t, m, put(key, 1), 1, done())
		does(t, d, del(key), 2, done())
	}
	if !reflect.DeepEqual(told(c), before) {
		t.Errorf("P5.1: what was done to the map has changed its copy: %v, not %v", told(c), before)
	}
	if len(m.All()) != 64 || len(d.All()) != 0 {
		t.Errorf("P5.1: two copies and their map: %v, %v", m.All(), d.All())
	}
	e := c.Copy()
	does(t, c, del(63), 3, done())
	has(t, e, 63, 3, 100)
	lacks(t, c, 63, 3)
}

// P5.1: answers are new memory

// spoil writes over a list and its spare room.
func spoil(l []api.Pair) {
	l = l[:cap(l)]
	for i := range l {
		l[i] = api.Pair{Key: -5, Val: -5}
	}
}

func TestAnAnswerIsNewMemory(t *testing.T) {
	m := some()
	want := slices.Clone(m.All())
	c := m.Copy()
	first, second := m.All(), m.Do(scan(0, 63), 1)
	spoil(first)
	if !slices.Equal(second.Pairs, want) || !slices.Equal(m.All(), want) || !slices.Equal(c.All(), want) {
		t.Errorf("P5.1: All's answer is shared: %v, %v, %v, not %v", second.Pairs, m.All(), c.All(), want)
	}
	third := m.All()
	spoil(second.Pairs)
	if !slices.Equal(third, want) || !slices.Equal(m.All(), want) || !slices.Equal(c.All(), want) {
		t.Errorf("P5.1: a scan's answer is shared: %v, %v, %v, not %v", third, m.All(), c.All(), want)
	}
}

func TestAnAnswerStaysAsItWas(t *testing.T) {
	m := some()
	want := slices.Clone(m.All())
	l, a := m.All(), m.Do(scan(0, 63), 1)
	for key := range 64 {
		m.Do(put(key, 77), 1)
	}
	if !slices.Equal(l, want) || !slices.Equal(a.Pairs, want) {
		t.Errorf("P5.1: answers have changed: %v, %v, not %v", l, a.Pairs, want)
	}
}

// P5.2

// entry: an op that was done, and whose it was.
type entry struct {
	o      api.Op
	writer int
}

// lookBack tells by the ops themselves what the key's last put or delete was.
func lookBack(log []entry, key int) (api.Pair, bool, int) {
	for i := len(log) - 1; i >= 0; i-- {
		e := log[i]
		if e.o.Key == key && (e.o.Kind == api.OPut || e.o.Kind == api.ODel) {
			return api.Pair{Key: key, Val: e.o.Val}, e.o.Kind == api.OPut, e.writer
		}
	}
	return api.Pair{Key: key}, false, -1
}

// answer tells by the ops done so far what the next one is to be answered.
func answer(log []entry, o api.Op) api.Answer {
	switch o.Kind {
	case api.OGet:
		p, found, writer := lookBack(log, o.Key)
		return api.Answer{Found: found, Val: p.Val, Writer: writer}
	case api.OScan:
		a := seen()
		for key := o.Key; key <= o.To; key++ {
			if p, found, _ := lookBack(log, key); found {
				a.Pairs = append(a.Pairs, p)
			}
		}
		return a
	}
	return done()
}

// nextOp: the ops of a long row, all kinds mixed, each seed another row.
func nextOp(seed *uint32, keys int) api.Op {
	next := func(n int) int {
		*seed = *seed*1664525 + 1013904223
		return int(*seed>>8) % n
	}
	switch next(6) {
	case 0, 1:
		return put(next(keys), next(api.MaxVal+1))
	case 2:
		return del(next(keys))
	case 3, 4:
		return get(next(keys))
	}
	return scan(next(keys), next(keys))
}

func TestALongRowOfOpsIsAnsweredByItself(t *testing.T) {
	for seed := uint32(1); seed <= 20; seed++ {
		state, m, keys := seed, New(), []int{3, 8, 64}[seed%3]
		var log []entry
		for i := range 400 {
			o := nextOp(&state, keys)
			if a, want := m.Do(o, i), answer(log, o); !same(a, want) {
				t.Fatalf("P5.2: row %d, op %d, %+v: %+v, not %+v", seed, i, o, a, want)
			}
			log = append(log, entry{o, i})
			if i%50 == 0 {
				m = m.Copy()
			}
		}
	}
}

func TestEqualRowsOfOpsMakeEqualMaps(t *testing.T) {
	a, b := New(), New()
	state := uint32(99)
	for i := range 300 {
		o := nextOp(&state, 16)
		if x, y := a.Do(o, i), b.Do(o, i); !same(x, y) {
			t.Fatalf("P5.2: op %d, %+v: %+v and %+v", i, o, x, y)
		}
		b.Do(api.Op{Kind: 9, Key: i}, i)
		b.All()
	}
	if !reflect.DeepEqual(told(a), told(b)) {
		t.Errorf("P5.2: %v and %v", told(a), told(b))
	}
}
