package link

import (
	"math"
	"slices"
	"testing"

	"reticule/api"
)

// draw makes numbers in a row that is always the same.
type draw uint64

func (d *draw) below(n int) int {
	*d = *d*6364136223846793005 + 1442695040888963407
	return int(uint64(*d) >> 33 % uint64(n))
}

// plain is what the document says a link is, on lists: each credit is in one of them, as its lane or as its word.
type plain struct {
	lanes, depth, room int
	had, far, back     []int
	words              []api.Cell
}

func newPlain(lanes, depth, room int) *plain {
	m := &plain{lanes: lanes, depth: depth, room: room}
	for lane := range lanes {
		m.had = append(m.had, slices.Repeat([]int{lane}, depth)...)
	}
	return m
}

func count(l []int, lane int) int {
	n := 0
	for _, v := range l {
		if v == lane {
			n++
		}
	}
	return n
}

// drop takes one of a lane out of a list; false, if there is none.
func drop(l *[]int, lane int) bool {
	i := slices.Index(*l, lane)
	if i < 0 {
		return false
	}
	*l = slices.Delete(*l, i, i+1)
	return true
}

func (m *plain) flying(lane int) int {
	n := 0
	for _, c := range m.words {
		if c.Lane == lane {
			n++
		}
	}
	return n
}

func (m *plain) is(lane int) bool {
	return lane >= 0 && lane < m.lanes
}

// refused tells what a sending on a lane would answer.
func (m *plain) refused(lane int) api.Errno {
	if !m.is(lane) {
		return api.ErrArg
	}
	if !slices.Contains(m.had, lane) {
		return api.ErrEmpty
	}
	if len(m.words) == m.room {
		return api.ErrFull
	}
	return api.OK
}

func (m *plain) send(c api.Cell) api.Errno {
	e := m.refused(c.Lane)
	if e == api.OK {
		drop(&m.had, c.Lane)
		m.words = append(m.words, c)
	}
	return e
}

func (m *plain) carry() (api.Cell, api.Errno) {
	if len(m.words) == 0 {
		return api.Cell{}, api.ErrEmpty
	}
	c := m.words[0]
	m.words = m.words[1:]
	m.far = append(m.far, c.Lane)
	return c, api.OK
}

func (m *plain) taken(lane int) api.Errno {
	if !m.is(lane) {
		return api.ErrArg
	}
	if !drop(&m.far, lane) {
		return api.ErrState
	}
	m.back = append(m.back, lane)
	return api.OK
}

func (m *plain) credit() api.Errno {
	if len(m.back) == 0 {
		return api.ErrEmpty
	}
	m.had = append(m.had, m.back[0])
	m.back = m.back[1:]
	return api.OK
}

// A call is told by a number: first the two that have no lane, then those of each lane, from -1 to one behind the last.
const (
	callCarry = iota
	callCredit
	callLanes
)

func callsOf(lanes int) int {
	return callLanes + 2*(lanes+2)
}

// pair is a link and the plain one, which are asked the same; a fault is told with the calls that led to it.
type pair struct {
	t     *testing.T
	l     *Link
	m     *plain
	asked []int
	word  uint64
}

func newPair(t *testing.T, lanes, depth, room int) *pair {
	return &pair{t: t, l: New(lanes, depth, room), m: newPlain(lanes, depth, room)}
}

func (p *pair) ask(call int) {
	p.asked = append(p.asked, call)
	lane := (call-callLanes)/2 - 1
	switch {
	case call == callCarry:
		c, e := p.l.Carry()
		wantC, wantE := p.m.carry()
		if c != wantC || e != wantE {
			p.fault("Carry", []any{c, e}, []any{wantC, wantE})
		}
	case call == callCredit:
		p.errno("Credit", p.l.Credit(), p.m.credit())
	case (call-callLanes)%2 == 0:
		p.word++
		c := api.Cell{Lane: lane, Word: p.word}
		p.errno("Send", p.l.Send(c), p.m.send(c))
	default:
		p.errno("Taken", p.l.Taken(lane), p.m.taken(lane))
	}
	p.same()
}

// same holds all that can be told of the link against the plain one; each is told twice, for telling changes nothing.
func (p *pair) same() {
	flying := 0
	for lane := -1; lane <= p.m.lanes; lane++ {
		flying += p.l.Flying(lane)
		for range 2 {
			p.number("Credits", lane, p.l.Credits(lane), count(p.m.had, lane))
			p.number("Flying", lane, p.l.Flying(lane), p.m.flying(lane))
			p.number("Far", lane, p.l.Far(lane), count(p.m.far, lane))
			p.number("Coming", lane, p.l.Coming(lane), count(p.m.back, lane))
			if may, want := p.l.May(lane), p.m.refused(lane) == api.OK; may != want {
				p.fault("May", may, want)
			}
		}
		want := 0
		if p.m.is(lane) {
			want = p.m.depth
		}
		p.number("Sum", lane, p.l.Sum(lane), want)
	}
	if flying > p.m.room {
		p.fault("more words in the ring than its room", flying, p.m.room)
	}
	if idle, want := p.l.Idle(), len(p.m.words)+len(p.m.far)+len(p.m.back) == 0; idle != want {
		p.fault("Idle", idle, want)
	}
}

func (p *pair) errno(call string, got, want api.Errno) {
	if got != want {
		p.fault(call, got, want)
	}
}

func (p *pair) number(call string, lane, got, want int) {
	if got != want {
		p.fault(call, []int{lane, got}, []int{lane, want})
	}
}

func (p *pair) fault(call string, got, want any) {
	p.t.Helper()
	led := p.asked[max(0, len(p.asked)-12):]
	p.t.Fatalf("%d lanes, depth %d, ring %d, behind the calls %v: %s: %v, want %v", p.m.lanes, p.m.depth, p.m.room, led, call, got, want)
}

func cell(lane int, word uint64) api.Cell {
	return api.Cell{Lane: lane, Word: word}
}

// wants holds the answers of calls, in their row, against those that are wanted.
func wants(t *testing.T, got []api.Errno, want ...api.Errno) {
	t.Helper()
	if !slices.Equal(got, want) {
		t.Errorf("errors %v, want %v", got, want)
	}
}

// carried carries words, so many, and tells them.
func carried(t *testing.T, l *Link, many int) []api.Cell {
	t.Helper()
	var cells []api.Cell
	for range many {
		c, e := l.Carry()
		if e != api.OK {
			t.Fatalf("Carry behind %d words: error %d", len(cells), e)
		}
		cells = append(cells, c)
	}
	return cells
}

// stands holds the four numbers of a lane against those that are wanted.
func stands(t *testing.T, l *Link, lane, credits, flying, far, coming int) {
	t.Helper()
	got := [4]int{l.Credits(lane), l.Flying(lane), l.Far(lane), l.Coming(lane)}
	want := [4]int{credits, flying, far, coming}
	if sum := credits + flying + far + coming; got != want || l.Sum(lane) != sum {
		t.Errorf("lane %d: %v, sum %d; want %v, %d", lane, got, l.Sum(lane), want, sum)
	}
}

// P13.1: the example of the chapter.
func TestExample(t *testing.T) {
	l := New(1, 1, 1)
	wants(t, []api.Errno{l.Send(cell(0, 7))}, api.OK)
	if c, e := l.Carry(); c != cell(0, 7) || e != api.OK {
		t.Errorf("Carry: %v, error %d", c, e)
	}
	wants(t, []api.Errno{l.Send(cell(0, 8)), l.Taken(0), l.Send(cell(0, 8)), l.Credit(), l.Send(cell(0, 8))},
		api.ErrEmpty, api.OK, api.ErrEmpty, api.OK, api.OK)
}

// P13.1, P13.2: all rows of calls, for links so small that each row meets their edges.
func TestEveryRowOfCalls(t *testing.T) {
	for _, x := range []struct{ lanes, depth, room, long int }{
		{1, 1, 1, 6}, {1, 1, 2, 6}, {1, 2, 1, 6}, {1, 2, 3, 6}, {1, 3, 2, 6}, {2, 1, 1, 4}, {2, 1, 2, 5}, {2, 2, 1, 5}, {2, 2, 3, 4},
	} {
		calls := callsOf(x.lanes)
		rows := 1
		for range x.long {
			rows *= calls
		}
		for row := range rows {
			p := newPair(t, x.lanes, x.depth, x.room)
			for range x.long {
				p.ask(row % calls)
				row /= calls
			}
		}
	}
}

// P13.1, P13.2: long rows of calls, in which now the one side, now the other one lags behind, so that rings and lanes fill and empty.
func TestLongRowsOfCalls(t *testing.T) {
	d := draw(13)
	for _, x := range [][3]int{{1, 1, 1}, {1, 64, 64}, {2, 3, 4}, {3, 2, 7}, {3, 7, 2}, {4, 8, 4}, {8, 1, 64}, {8, 4, 64}, {8, 64, 1}, {8, 64, 64}} {
		p := newPair(t, x[0], x[1], x[2])
		for range 30 {
			often := []int{callCarry, callCredit}
			for call := callLanes; call < callsOf(x[0]); call++ {
				often = append(often, slices.Repeat([]int{call}, 1+call%2)...)
			}
			often = append(often, slices.Repeat([]int{callCarry}, d.below(3*x[0]))...)
			often = append(often, slices.Repeat([]int{callCredit}, d.below(3*x[0]))...)
			for range 150 {
				p.ask(often[d.below(len(often))])
			}
		}
	}
}

// P13.1: numbers at and out of the bounds are the nearer one of both.
func TestNumbersAreHeldToTheirBounds(t *testing.T) {
	held := func(most int) [][2]int {
		return [][2]int{
			{math.MinInt, 1}, {-1, 1}, {0, 1}, {1, 1}, {2, 2}, {most - 1, most - 1}, {most, most}, {most + 1, most}, {math.MaxInt, most},
		}
	}
	for _, lanes := range held(8) {
		for _, depth := range held(64) {
			for _, room := range held(64) {
				l := New(lanes[0], depth[0], room[0])
				for lane := -1; lane <= 9; lane++ {
					credits := 0
					if lane >= 0 && lane < lanes[1] {
						credits = depth[1]
					}
					if l.Credits(lane) != credits || l.Sum(lane) != credits || l.May(lane) != (credits > 0) {
						t.Fatalf("New(%d, %d, %d): lane %d: %d credits", lanes[0], depth[0], room[0], lane, l.Credits(lane))
					}
				}
				many := 0
				for many < 1000 && l.Send(cell(many%lanes[1], 0)) == api.OK {
					many++
				}
				if most := min(room[1], lanes[1]*depth[1]); many != most || !l.Idle() != (many > 0) {
					t.Fatalf("New(%d, %d, %d): %d words were sent, not %d", lanes[0], depth[0], room[0], many, most)
				}
			}
		}
	}
}

// P13.1: a new link has all its credits, and nothing is in it.
func TestNew(t *testing.T) {
	l := New(3, 5, 2)
	for lane := range 3 {
		stands(t, l, lane, 5, 0, 0, 0)
	}
	if !l.Idle() {
		t.Error("not idle")
	}
	c, e := l.Carry()
	wants(t, []api.Errno{e, l.Credit(), l.Taken(0), l.Taken(2), l.Taken(3)}, api.ErrEmpty, api.ErrEmpty, api.ErrState, api.ErrState, api.ErrArg)
	if c != (api.Cell{}) {
		t.Errorf("carried: %v", c)
	}
}

// P13.1: a credit of a lane goes from it to the ring, to the far end, to the ring of those that come back, and to it again; those of others stay.
func TestCreditGoesRound(t *testing.T) {
	l := New(2, 3, 4)
	idle := func(want bool) {
		t.Helper()
		if l.Idle() != want {
			t.Errorf("Idle: %v", !want)
		}
	}
	l.Send(cell(1, 6))
	stands(t, l, 1, 2, 1, 0, 0)
	idle(false)
	l.Carry()
	stands(t, l, 1, 2, 0, 1, 0)
	idle(false)
	l.Taken(1)
	stands(t, l, 1, 2, 0, 0, 1)
	idle(false)
	l.Credit()
	stands(t, l, 1, 3, 0, 0, 0)
	stands(t, l, 0, 3, 0, 0, 0)
	idle(true)
}

// P13.1, R1: where several errors apply, a sending tells that there is no such lane, then that it has no credit, then that the ring is full.
func TestWhichErrorIsFirst(t *testing.T) {
	l := New(2, 1, 1)
	wants(t, []api.Errno{l.Send(cell(2, 1)), l.Send(cell(0, 2))}, api.ErrArg, api.OK)
	wants(t, []api.Errno{l.Send(cell(0, 3)), l.Send(cell(1, 4)), l.Send(cell(2, 5)), l.Send(cell(-1, 6))},
		api.ErrEmpty, api.ErrFull, api.ErrArg, api.ErrArg)
	if l.May(0) || l.May(1) || l.May(2) {
		t.Error("May, where the ring is full")
	}
	if got := carried(t, l, 1); !slices.Equal(got, []api.Cell{cell(0, 2)}) || l.May(0) || !l.May(1) {
		t.Errorf("carried %v; may: %v, %v", got, l.May(0), l.May(1))
	}
}

// P13.1: of a lane that isn't there.
func TestNoSuchLane(t *testing.T) {
	l := New(2, 2, 4)
	l.Send(cell(0, 1))
	l.Send(cell(1, 2))
	carried(t, l, 2)
	l.Taken(1)
	for _, lane := range []int{math.MinInt, -2, -1, 2, 3, 7, 8, 64, math.MaxInt} {
		wants(t, []api.Errno{l.Send(cell(lane, 9)), l.Taken(lane)}, api.ErrArg, api.ErrArg)
		stands(t, l, lane, 0, 0, 0, 0)
		if l.May(lane) {
			t.Errorf("May on the lane %d", lane)
		}
	}
	stands(t, l, 0, 1, 0, 1, 0)
	stands(t, l, 1, 1, 0, 0, 1)
}

// P13.1, R3: what is refused changes nothing.
func TestRefusedChangesNothing(t *testing.T) {
	l := New(3, 2, 3)
	l.Send(cell(0, 1))
	l.Send(cell(1, 2))
	carried(t, l, 2)
	l.Taken(1)
	words := []api.Cell{cell(2, 3), cell(1, 4), cell(0, 5)}
	for _, c := range words {
		l.Send(c)
	}
	for range 3 {
		wants(t, []api.Errno{l.Send(cell(0, 8)), l.Send(cell(1, 8)), l.Send(cell(2, 8)), l.Send(cell(3, 8)), l.Taken(1), l.Taken(2), l.Taken(-1)},
			api.ErrEmpty, api.ErrEmpty, api.ErrFull, api.ErrArg, api.ErrState, api.ErrState, api.ErrArg)
		stands(t, l, 0, 0, 1, 1, 0)
		stands(t, l, 1, 0, 1, 0, 1)
		stands(t, l, 2, 1, 1, 0, 0)
	}
	if got := carried(t, l, 3); !slices.Equal(got, words) {
		t.Errorf("carried %v", got)
	}
	l.Credit()
	for range 3 {
		_, e := l.Carry()
		wants(t, []api.Errno{e, l.Credit()}, api.ErrEmpty, api.ErrEmpty)
		stands(t, l, 1, 1, 0, 1, 0)
	}
}

// P13.1: a word is taken only at the far end, each once; those of another lane, or in the ring, are none of the lane's there.
func TestTakenAtTheFarEnd(t *testing.T) {
	l := New(2, 2, 4)
	l.Send(cell(0, 1))
	wants(t, []api.Errno{l.Taken(0), l.Credit()}, api.ErrState, api.ErrEmpty)
	carried(t, l, 1)
	wants(t, []api.Errno{l.Taken(1), l.Taken(0), l.Taken(0)}, api.ErrState, api.OK, api.ErrState)
	stands(t, l, 0, 1, 0, 0, 1)
	wants(t, []api.Errno{l.Credit(), l.Credit()}, api.OK, api.ErrEmpty)
	stands(t, l, 0, 2, 0, 0, 0)
}

// P13.1: credits come back in the row in which words were taken, not in that of sending.
func TestCreditsComeBackInTheirRow(t *testing.T) {
	l := New(4, 2, 8)
	for _, lane := range []int{0, 1, 2, 3, 0, 1, 2, 3} {
		l.Send(cell(lane, 0))
	}
	carried(t, l, 8)
	row := []int{2, 0, 0, 3, 1, 3, 2, 1}
	for _, lane := range row {
		wants(t, []api.Errno{l.Taken(lane)}, api.OK)
	}
	for i, lane := range row {
		credits := l.Credits(lane)
		if e := l.Credit(); e != api.OK || l.Credits(lane) != credits+1 {
			t.Errorf("credit %d: error %d; it isn't of the lane %d", i, e, lane)
		}
	}
	if !l.Idle() {
		t.Error("not idle")
	}
}

// P13.2: words are carried in their row, whatever their lanes are, and as they were sent; the ring has no more than its room.
func TestWordsAreCarriedInTheirRow(t *testing.T) {
	d := draw(1)
	for _, room := range []int{1, 2, 5, 63, 64} {
		l := New(8, 64, room)
		var sent, got []api.Cell
		for range 1000 {
			for range d.below(room + 2) {
				c := cell(d.below(8), uint64(d.below(math.MaxInt32))<<40|uint64(len(sent)))
				if l.Send(c) == api.OK {
					sent = append(sent, c)
				}
			}
			if len(sent)-len(got) > room {
				t.Fatalf("ring %d: %d words in it", room, len(sent)-len(got))
			}
			for range d.below(room + 2) {
				if c, e := l.Carry(); e == api.OK {
					got = append(got, c)
					l.Taken(c.Lane)
					l.Credit()
				}
			}
		}
		got = append(got, carried(t, l, len(sent)-len(got))...)
		if !slices.Equal(got, sent) || len(sent) < 200 {
			t.Errorf("ring %d: the %d words came in another row", room, len(sent))
		}
	}
}

// P13.1: a word may be any.
func TestAnyWord(t *testing.T) {
	l := New(1, 4, 4)
	words := []api.Cell{cell(0, 0), cell(0, math.MaxUint64), cell(0, 1<<63), cell(0, 0)}
	for _, c := range words {
		wants(t, []api.Errno{l.Send(c)}, api.OK)
	}
	if got := carried(t, l, 4); !slices.Equal(got, words) {
		t.Errorf("carried %v", got)
	}
}

// P13.1, P13.2: the ring of credits has room for all, of the greatest link, too.
func TestAllCreditsComeBack(t *testing.T) {
	for _, x := range [][3]int{{1, 1, 1}, {8, 64, 64}, {8, 64, 1}, {1, 64, 1}, {8, 1, 64}} {
		l := New(x[0], x[1], x[2])
		for round := range 3 {
			for range x[1] {
				for lane := range x[0] {
					wants(t, []api.Errno{l.Send(cell(lane, 1))}, api.OK)
					carried(t, l, 1)
				}
			}
			for lane := range x[0] {
				stands(t, l, lane, 0, 0, x[1], 0)
				for range x[1] {
					wants(t, []api.Errno{l.Taken(lane)}, api.OK)
				}
				wants(t, []api.Errno{l.Taken(lane)}, api.ErrState)
				stands(t, l, lane, 0, 0, 0, x[1])
			}
			for range x[0] * x[1] {
				wants(t, []api.Errno{l.Credit()}, api.OK)
			}
			wants(t, []api.Errno{l.Credit()}, api.ErrEmpty)
			if !l.Idle() {
				t.Fatalf("%v, round %d: not idle", x, round)
			}
		}
	}
}

// P13.1: a lane without a credit holds no other one up.
func TestLanesAreApart(t *testing.T) {
	l := New(3, 2, 8)
	wants(t, []api.Errno{l.Send(cell(1, 1)), l.Send(cell(1, 2)), l.Send(cell(1, 3)), l.Send(cell(0, 4)), l.Send(cell(2, 5)), l.Send(cell(1, 6))},
		api.OK, api.OK, api.ErrEmpty, api.OK, api.OK, api.ErrEmpty)
	carried(t, l, 4)
	l.Taken(2)
	l.Taken(1)
	l.Credit()
	wants(t, []api.Errno{l.Send(cell(1, 7))}, api.ErrEmpty)
	l.Credit()
	wants(t, []api.Errno{l.Send(cell(1, 8)), l.Send(cell(1, 9))}, api.OK, api.ErrEmpty)
}

func TestEachHasItsOwn(t *testing.T) {
	a, b := New(2, 2, 2), New(2, 2, 2)
	a.Send(cell(0, 1))
	a.Send(cell(0, 2))
	carried(t, a, 1)
	a.Taken(0)
	if _, e := b.Carry(); e != api.ErrEmpty || !b.Idle() {
		t.Errorf("the other one isn't idle: error %d", e)
	}
	stands(t, a, 0, 0, 1, 0, 1)
	stands(t, b, 0, 2, 0, 0, 0)
}

// P13.1, R7: of nil.
func TestNil(t *testing.T) {
	var l *Link
	for range 2 {
		c, e := l.Carry()
		wants(t, []api.Errno{l.Send(cell(0, 1)), l.Send(cell(-1, 1)), e, l.Taken(0), l.Taken(9), l.Credit()},
			api.ErrArg, api.ErrArg, api.ErrArg, api.ErrArg, api.ErrArg, api.ErrArg)
		if c != (api.Cell{}) || l.May(0) || l.May(-1) || !l.Idle() {
			t.Errorf("%v, %v, %v", c, l.May(0), l.Idle())
		}
		stands(t, l, 0, 0, 0, 0, 0)
		stands(t, l, -1, 0, 0, 0, 0)
	}
}

// T0: a Link that New did not make has no lanes, and panics no more than another one.
func TestNotMadeByNew(t *testing.T) {
	var l Link
	_, e := l.Carry()
	if e == api.OK || l.Credit() == api.OK || l.Send(cell(0, 1)) != api.ErrArg || l.Taken(0) != api.ErrArg || l.May(0) || !l.Idle() {
		t.Error("it has something")
	}
	stands(t, &l, 0, 0, 0, 0, 0)
}
