package fair

import (
	"errors"
	"math"
	"slices"
	"testing"
)

// draw makes numbers in a row that is always the same.
type draw uint64

func (d *draw) below(n int) int {
	*d = *d*6364136223846793005 + 1442695040888963407
	return int(uint64(*d) >> 33 % uint64(n))
}

// truths tells of each place whether it wants: of the first place the lowest bit of a number.
func truths(places int, bits int) []bool {
	l := make([]bool, places)
	for i := range l {
		l[i] = bits>>i&1 == 1
	}
	return l
}

// plain keeps all places in the row in which they are asked: the one that had its turn last is the last of them.
type plain struct {
	row []int
	had bool
}

func newPlain(places int) *plain {
	m := &plain{}
	for i := range places {
		m.row = append(m.row, i)
	}
	return m
}

func (m *plain) last() int {
	if !m.had {
		return -1
	}
	return m.row[len(m.row)-1]
}

// see tells how many places are asked, the answer, and whether one wants.
func (m *plain) see(want []bool) (asked, place int, is bool) {
	for i, p := range m.row {
		if p < len(want) && want[p] {
			return i + 1, p, true
		}
	}
	return len(m.row), 0, false
}

func (m *plain) next(want []bool) (asked, place int, is bool) {
	asked, place, is = m.see(want)
	if is {
		m.row = slices.Concat(m.row[asked:], m.row[:asked])
		m.had = true
	}
	return asked, place, is
}

const (
	callNext = iota
	callSee
	callOf
	calls
)

// hold calls a Fair and the plain one, and holds the answers, who was asked in which row, and what is kept against one another.
func hold(t *testing.T, f *Fair, m *plain, call int, want []bool) {
	t.Helper()
	var asked []int
	ask := func(place int) bool {
		asked = append(asked, place)
		return place < len(want) && want[place]
	}
	row := slices.Clone(m.row)
	var many, place, wantPlace int
	var is, wantIs bool
	switch call {
	case callNext:
		place, is = f.Next(ask)
		many, wantPlace, wantIs = m.next(want)
	case callSee:
		place, is = f.See(ask)
		many, wantPlace, wantIs = m.see(want)
	case callOf:
		handed := slices.Clone(want)
		place, is = f.Of(handed...)
		_, wantPlace, wantIs = m.next(want)
		if !slices.Equal(handed, want) {
			t.Fatalf("Of turned its list %v to %v", want, handed)
		}
	}
	if place != wantPlace || is != wantIs {
		t.Fatalf("%d places, asked in the row %v, call %d of %v: %d %v, not %d %v", len(row), row, call, want, place, is, wantPlace, wantIs)
	}
	if !slices.Equal(asked, row[:many]) {
		t.Fatalf("%d places, call %d of %v asked %v, not %v", len(row), call, want, asked, row[:many])
	}
	if f.Last() != m.last() || f.Places() != len(row) {
		t.Fatalf("%d places, behind call %d of %v: last %d, %d places; not %d, %d", len(row), call, want, f.Last(), f.Places(), m.last(), len(row))
	}
}

// made tells a Fair, and the plain one, in which that place had its turn last; at -1 none had.
func made(t *testing.T, places, last int) (*Fair, *plain) {
	t.Helper()
	f, m := New(places), newPlain(places)
	if last >= 0 {
		hold(t, f, m, callNext, append(make([]bool, last), true))
	}
	return f, m
}

func all(int) bool  { return true }
func none(int) bool { return false }

func only(place int) func(int) bool {
	return func(p int) bool { return p == place }
}

func TestExample(t *testing.T) {
	f := New(3)
	for i, want := range []int{0, 1, 2, 0} {
		if place, is := f.Next(all); place != want || !is {
			t.Errorf("call %d: %d %v, not %d", i, place, is, want)
		}
	}
}

func TestNew(t *testing.T) {
	for _, x := range [][2]int{
		{1, 1}, {2, 2}, {7, 7}, {4095, 4095}, {4096, 4096},
		{0, 1}, {-1, 1}, {-4096, 1}, {math.MinInt, 1}, {4097, 4096}, {8192, 4096}, {math.MaxInt, 4096},
	} {
		f := New(x[0])
		if f.Places() != x[1] || f.Last() != -1 {
			t.Errorf("New(%d): %d places, last %d; not %d, -1", x[0], f.Places(), f.Last(), x[1])
		}
		hold(t, f, newPlain(x[1]), callNext, nil)
	}
}

// TestEachCall makes each call at each place that may be last, whoever wants, with lists that are too short, and too long.
func TestEachCall(t *testing.T) {
	for places := 1; places <= 5; places++ {
		for last := -1; last < places; last++ {
			for long := 0; long <= places+2; long++ {
				for bits := range 1 << long {
					for call := range calls {
						f, m := made(t, places, last)
						hold(t, f, m, call, truths(long, bits))
						hold(t, f, m, callNext, truths(places, -1))
					}
				}
			}
		}
	}
}

// TestRowsOfCalls makes all rows of three calls at up to three places.
func TestRowsOfCalls(t *testing.T) {
	for places := 1; places <= 3; places++ {
		masks := 1 << places
		kinds := calls * masks
		for row := range kinds * kinds * kinds {
			f, m := New(places), newPlain(places)
			for range 3 {
				hold(t, f, m, row%calls, truths(places, row/calls%masks))
				row /= kinds
			}
		}
	}
}

func TestLongRows(t *testing.T) {
	d := draw(12)
	for _, places := range []int{1, 2, 3, 8, 31, 40, 64, 257} {
		f, m := New(places), newPlain(places)
		for range 2000 {
			want := make([]bool, d.below(places+3))
			rare := 1 + d.below(places+1)
			for i := range want {
				want[i] = d.below(rare) == 0
			}
			hold(t, f, m, d.below(calls), want)
		}
	}
}

func TestMostPlaces(t *testing.T) {
	f := New(4096)
	for i := range 2*4096 + 1 {
		if place, is := f.Next(all); place != i%4096 || !is || f.Last() != place {
			t.Fatalf("turn %d: %d %v, last %d", i, place, is, f.Last())
		}
	}
	for _, want := range []int{4095, 0, 4095, 4094, 4095} {
		if place, is := f.Next(only(want)); place != want || !is {
			t.Errorf("only %d wants: %d %v", want, place, is)
		}
	}
	if place, is := f.Of(append(make([]bool, 4096), true)...); place != 0 || is || f.Last() != 4095 {
		t.Errorf("a place behind the last one wants: %d %v, last %d", place, is, f.Last())
	}
}

func TestSeeChangesNothing(t *testing.T) {
	f := New(3)
	for range 3 {
		if place, is := f.See(all); place != 0 || !is || f.Last() != -1 {
			t.Errorf("at first: %d %v, last %d", place, is, f.Last())
		}
	}
	f.Next(only(1))
	for range 3 {
		if place, is := f.See(all); place != 2 || !is || f.Last() != 1 {
			t.Errorf("behind 1: %d %v, last %d", place, is, f.Last())
		}
	}
	if place, is := f.Next(all); place != 2 || !is {
		t.Errorf("the turn that was seen: %d %v", place, is)
	}
}

func TestNoneChangesNothing(t *testing.T) {
	for last := -1; last < 4; last++ {
		f, _ := made(t, 4, last)
		f.Next(none)
		f.See(none)
		f.Of()
		f.Of(false, false, false, false)
		f.Of(false, false, false, false, true)
		f.Next(nil)
		if f.Last() != last {
			t.Errorf("none wants: last %d, not %d", f.Last(), last)
		}
		if place, is := f.Next(all); place != (last+1)%4 || !is {
			t.Errorf("behind that: %d %v, not %d", place, is, (last+1)%4)
		}
	}
}

func TestNil(t *testing.T) {
	var f *Fair
	ask := func(int) bool {
		t.Error("a place of nil was asked")
		return true
	}
	for i, call := range []func() (int, bool){
		func() (int, bool) { return f.Next(ask) },
		func() (int, bool) { return f.See(ask) },
		func() (int, bool) { return f.Of(true) },
		func() (int, bool) { return f.Of() },
		func() (int, bool) { return f.Next(nil) },
		func() (int, bool) { return f.See(nil) },
	} {
		if place, is := call(); place != 0 || is {
			t.Errorf("call %d of nil: %d %v", i, place, is)
		}
	}
	if f.Places() != 0 || f.Last() != -1 {
		t.Errorf("nil: %d places, last %d", f.Places(), f.Last())
	}
}

func TestNoFunction(t *testing.T) {
	f, _ := made(t, 3, 1)
	if place, is := f.Next(nil); place != 0 || is || f.Last() != 1 {
		t.Errorf("Next: %d %v, last %d", place, is, f.Last())
	}
	if place, is := f.See(nil); place != 0 || is || f.Last() != 1 {
		t.Errorf("See: %d %v, last %d", place, is, f.Last())
	}
}

// TestPanic hands over functions that panic at one place, or at all: such a place doesn't want.
func TestPanic(t *testing.T) {
	for _, reason := range []any{"no", errors.New("no"), nil, 0} {
		always := func(int) bool { panic(reason) }
		at := func(bad int, good ...int) func(int) bool {
			return func(place int) bool {
				if place == bad {
					panic(reason)
				}
				return slices.Contains(good, place)
			}
		}
		f, _ := made(t, 4, 1)
		if place, is := f.Next(always); place != 0 || is || f.Last() != 1 {
			t.Errorf("at all places: %d %v, last %d", place, is, f.Last())
		}
		if place, is := f.See(always); place != 0 || is || f.Last() != 1 {
			t.Errorf("at all places, seen: %d %v, last %d", place, is, f.Last())
		}
		if place, is := f.Next(at(2)); place != 0 || is || f.Last() != 1 {
			t.Errorf("at one place, none wants: %d %v, last %d", place, is, f.Last())
		}
		if place, is := f.See(at(2, 3, 0)); place != 3 || !is || f.Last() != 1 {
			t.Errorf("at one place, seen: %d %v, last %d", place, is, f.Last())
		}
		if place, is := f.Next(at(2, 0, 1)); place != 0 || !is || f.Last() != 0 {
			t.Errorf("at one place: %d %v, last %d", place, is, f.Last())
		}
	}
}

// TestAskedMeanwhile hands over functions that call the same Fair: the row in which places are asked is that of the call's beginning.
func TestAskedMeanwhile(t *testing.T) {
	f, _ := made(t, 4, 1)
	var asked []int
	place, is := f.Next(func(place int) bool {
		asked = append(asked, place)
		f.Next(only(0))
		return place == 1
	})
	if place != 1 || !is || f.Last() != 1 || !slices.Equal(asked, []int{2, 3, 0, 1}) {
		t.Errorf("%d %v, last %d, asked %v", place, is, f.Last(), asked)
	}
}

// TestWantsOnce: who wants is asked anew in each call, so that a function may tell another thing each time.
func TestWantsOnce(t *testing.T) {
	f := New(3)
	left := []int{1, 0, 2}
	want := func(place int) bool { return left[place] > 0 }
	var had []int
	for {
		place, is := f.Next(want)
		if !is {
			break
		}
		had = append(had, place)
		left[place]--
	}
	if !slices.Equal(had, []int{0, 2, 2}) {
		t.Errorf("had their turns: %v", had)
	}
}

func TestEachHasItsOwn(t *testing.T) {
	a, b := New(3), New(3)
	a.Next(all)
	a.Next(all)
	if place, is := b.Next(all); place != 0 || !is || a.Last() != 1 {
		t.Errorf("%d %v, last of the other one %d", place, is, a.Last())
	}
}

func TestNotMadeByNew(t *testing.T) {
	var f Fair
	m := newPlain(1)
	if f.Places() != 1 || f.Last() != -1 {
		t.Fatalf("%d places, last %d", f.Places(), f.Last())
	}
	for _, want := range [][]bool{nil, {false, true}, {true}, {true, true}, {false}} {
		for call := range calls {
			hold(t, &f, m, call, want)
		}
	}
}

// TestWhoWantsHasItsTurn lets one place want all the while, whatever the others do, from whatever place was last.
func TestWhoWantsHasItsTurn(t *testing.T) {
	for places := 1; places <= 5; places++ {
		for last := -1; last < places; last++ {
			for waiting := range places {
				// the worst that the others may do: all rows of who wants
				most := longest(t, places, last, waiting, places)
				if most > places {
					t.Errorf("%d places, last %d: %d waits for %d turns", places, last, waiting, most)
				}
			}
		}
	}
}

// longest tells the turn, from 1 on, in which a place that wants has its own at the latest; more than left, if it has none in so many.
func longest(t *testing.T, places, last, waiting, left int) int {
	t.Helper()
	if left == 0 {
		return 1
	}
	most := 0
	for bits := range 1 << places {
		want := truths(places, bits)
		if !want[waiting] {
			continue
		}
		f, _ := made(t, places, last)
		place, is := f.Of(want...)
		switch {
		case !is:
			t.Fatalf("%d places, last %d, %v: none has its turn", places, last, want)
		case place == waiting:
			most = max(most, 1)
		default:
			most = max(most, 1+longest(t, places, place, waiting, left-1))
		}
	}
	return most
}

// TestWaitsAmongAll: if all want, each has one turn in as many as there are places.
func TestWaitsAmongAll(t *testing.T) {
	for _, places := range []int{1, 2, 40, 4096} {
		for _, last := range []int{0, places / 2, places - 1} {
			f := New(places)
			f.Next(only(last))
			had := make([]bool, places)
			for range places {
				place, _ := f.Next(all)
				if had[place] {
					t.Fatalf("%d places: %d has its turn twice", places, place)
				}
				had[place] = true
			}
			if f.Last() != last {
				t.Errorf("%d places: %d has its turn last, not %d", places, f.Last(), last)
			}
		}
	}
}
