package ring

import (
	"math"
	"slices"
	"testing"

	"reticule/api"
)

const last = math.MaxUint32

// model is what the document says a ring is, on a list.
type model struct {
	room    int
	things  []int
	laid    []int
	in, out uint32
}

func (m *model) lay(v int) api.Errno {
	if len(m.laid) > 0 {
		return api.ErrState
	}
	if len(m.things) == m.room {
		return api.ErrFull
	}
	m.laid = []int{v}
	return api.OK
}

func (m *model) publish() api.Errno {
	if len(m.laid) == 0 {
		return api.ErrState
	}
	m.things, m.laid = append(m.things, m.laid...), nil
	m.in++
	return api.OK
}

func (m *model) push(v int) api.Errno {
	if len(m.laid) > 0 {
		return api.ErrState
	}
	if len(m.things) == m.room {
		return api.ErrFull
	}
	m.things = append(m.things, v)
	m.in++
	return api.OK
}

func (m *model) peek() (int, api.Errno) {
	if len(m.things) == 0 {
		return 0, api.ErrEmpty
	}
	return m.things[0], api.OK
}

func (m *model) take(n int) []int {
	n = max(0, min(n, len(m.things)))
	l := m.things[:n]
	m.things = m.things[n:]
	m.out += uint32(n)
	return l
}

// pair is a ring and its model, which are asked the same; a fault is told with the last calls that led to it.
type pair struct {
	t     *testing.T
	r     *Ring[int]
	m     *model
	asked [][2]int
	next  int
}

func newPair(t *testing.T, room int, begin uint32) *pair {
	return &pair{t: t, r: New[int](room, begin), m: &model{room: room, in: begin, out: begin}}
}

const calls = 8

// ask makes one call, and holds its answer and what can be told of the ring against the model's.
func (p *pair) ask(call, n int) {
	p.asked = append(p.asked, [2]int{call, n})
	p.next++
	v := p.next
	switch call {
	case 0:
		p.errno("Push", p.r.Push(v), p.m.push(v))
	case 1:
		p.errno("Lay", p.r.Lay(v), p.m.lay(v))
	case 2:
		p.errno("Publish", p.r.Publish(), p.m.publish())
	case 3:
		got, e := p.r.Pop()
		want, we := p.m.peek()
		p.m.take(1)
		p.errno("Pop", e, we)
		p.number("Pop", got, want)
	case 4:
		got, e := p.r.Peek()
		want, we := p.m.peek()
		p.errno("Peek", e, we)
		p.number("Peek", got, want)
	case 5:
		_, we := p.m.peek()
		p.m.take(1)
		p.errno("Free", p.r.Free(), we)
	case 6:
		p.pushAll(n)
	case 7:
		p.list("PopSome", p.r.PopSome(n), p.m.take(n))
	}
	p.same()
}

func (p *pair) pushAll(n int) {
	var l []int
	for range n {
		p.next++
		l = append(l, p.next)
	}
	want := 0
	for _, v := range l {
		if p.m.push(v) == api.OK {
			want++
		}
	}
	p.number("PushAll", p.r.PushAll(l...), want)
}

func (p *pair) same() {
	in, out := p.r.Counts()
	if in != p.m.in || out != p.m.out {
		p.fault("Counts", []uint32{in, out}, []uint32{p.m.in, p.m.out})
	}
	p.number("Len", p.r.Len(), len(p.m.things))
	p.number("Room", p.r.Room(), p.m.room-len(p.m.things)-len(p.m.laid))
	p.list("All", p.r.All(), p.m.things)
	if p.r.Len() > p.m.room {
		p.fault("more than its room", p.r.Len(), p.m.room)
	}
}

func (p *pair) errno(call string, got, want api.Errno) {
	if got != want {
		p.fault(call, got, want)
	}
}

func (p *pair) number(call string, got, want int) {
	if got != want {
		p.fault(call, got, want)
	}
}

func (p *pair) list(call string, got, want []int) {
	if !slices.Equal(got, want) {
		p.fault(call, got, want)
	}
}

func (p *pair) fault(call string, got, want any) {
	led := p.asked[max(0, len(p.asked)-12):]
	p.t.Fatalf("room %d, behind the calls %v: %s: %v, want %v", p.m.room, led, call, got, want)
}

// P1.1: the example of the chapter.
func TestExample(t *testing.T) {
	r := New[string](2, last)
	for i, want := range []api.Errno{api.OK, api.OK, api.ErrFull} {
		if e := r.Push("x"); e != want {
			t.Errorf("push %d: error %d, want %d", i, e, want)
		}
	}
	if in, out := r.Counts(); in != 1 || out != last {
		t.Errorf("Counts: %d, %d", in, out)
	}
}

// P1.1: every row of six calls, for small rooms, from beginnings that go round and one that doesn't.
func TestEveryRowOfCalls(t *testing.T) {
	const long = 6
	rows := 1
	for range long {
		rows *= calls
	}
	for room := 1; room <= 3; room++ {
		for _, begin := range []uint32{0, last, last - 1} {
			for row := range rows {
				p := newPair(t, room, begin)
				for k := row; k > 0; k /= calls {
					p.ask(k%calls, 2)
				}
			}
		}
	}
}

// P1.1, P1.2: long rows of calls, which fill and empty a ring many times over the place where counts go round.
func TestLongRowsOfCalls(t *testing.T) {
	seed := uint32(1)
	draw := func(below int) int {
		seed = seed*1664525 + 1013904223
		return int(seed>>8) % below
	}
	for _, room := range []int{1, 2, 3, 4, 5, 7, 63, 64, 65} {
		p := newPair(t, room, last-500)
		for range 20000 {
			p.ask(draw(calls), draw(room+3)-1)
		}
		if p.m.out >= last-500 {
			t.Errorf("room %d: the counts did not go round", room)
		}
	}
}

// P1.1: rooms at and out of the bounds are the nearer one of both.
func TestRoomIsHeldToItsBounds(t *testing.T) {
	for _, x := range []struct{ room, want int }{
		{math.MinInt, 1}, {-1, 1}, {0, 1}, {1, 1}, {2, 2}, {4095, 4095}, {4096, 4096}, {4097, 4096}, {math.MaxInt, 4096},
	} {
		r := New[int](x.room, last-100)
		if got := r.Room(); got != x.want {
			t.Errorf("room %d: Room %d, want %d", x.room, got, x.want)
		}
		var want []int
		for i := range x.want {
			want = append(want, i)
			if e := r.Push(i); e != api.OK {
				t.Fatalf("room %d: push %d: error %d", x.room, i, e)
			}
		}
		if e := r.Push(0); e != api.ErrFull {
			t.Errorf("room %d: push past it: error %d", x.room, e)
		}
		if r.Len() != x.want || r.Room() != 0 || !slices.Equal(r.All(), want) {
			t.Errorf("room %d: Len %d, Room %d", x.room, r.Len(), r.Room())
		}
		if got := r.PopSome(math.MaxInt); !slices.Equal(got, want) {
			t.Errorf("room %d: %d things came out in another row", x.room, len(got))
		}
	}
}

// P1.1: a new ring's counts are its beginning, and the counts go round from any.
func TestCountsGoRound(t *testing.T) {
	for _, begin := range []uint32{0, 1, 1 << 31, last - 1, last} {
		r := New[int](3, begin)
		if in, out := r.Counts(); in != begin || out != begin || r.Len() != 0 {
			t.Errorf("begin %d: new: %d, %d", begin, in, out)
		}
		r.PushAll(1, 2, 3)
		if in, out := r.Counts(); in != begin+3 || out != begin || r.Len() != 3 {
			t.Errorf("begin %d: filled: %d, %d", begin, in, out)
		}
		if l := r.PopSome(2); !slices.Equal(l, []int{1, 2}) {
			t.Errorf("begin %d: taken out: %v", begin, l)
		}
		if in, out := r.Counts(); in != begin+3 || out != begin+2 || !slices.Equal(r.All(), []int{3}) {
			t.Errorf("begin %d: taken out: %d, %d, %v", begin, in, out, r.All())
		}
	}
}

// P1.1: a thing that is laid is none of the ring's, but takes its room.
func TestLaid(t *testing.T) {
	r := New[string](2, 0)
	r.Push("a")
	if e := r.Lay("b"); e != api.OK {
		t.Fatal(e)
	}
	if in, _ := r.Counts(); in != 1 || r.Len() != 1 || r.Room() != 0 || !slices.Equal(r.All(), []string{"a"}) {
		t.Errorf("laid: %d, %d, %d, %v", in, r.Len(), r.Room(), r.All())
	}
	// Here the ring is full as well: ErrState comes ahead of ErrFull.
	if e := r.Lay("c"); e != api.ErrState {
		t.Errorf("laid twice: error %d", e)
	}
	if e := r.Push("c"); e != api.ErrState {
		t.Errorf("pushed where one is laid: error %d", e)
	}
	if n := r.PushAll("c", "d"); n != 0 {
		t.Errorf("put in where one is laid: %d", n)
	}
	if l := r.PopSome(9); !slices.Equal(l, []string{"a"}) {
		t.Errorf("taken out where one is laid: %v", l)
	}
	if _, e := r.Pop(); e != api.ErrEmpty || r.Free() != api.ErrEmpty {
		t.Errorf("only one is laid: error %d", e)
	}
	if e := r.Publish(); e != api.OK {
		t.Errorf("Publish: error %d", e)
	}
	if v, e := r.Pop(); v != "b" || e != api.OK {
		t.Errorf("published: %q, error %d", v, e)
	}
	if e := r.Publish(); e != api.ErrState {
		t.Errorf("published twice: error %d", e)
	}
}

// P1.1: looking at a thing leaves it; beside an error it is the zero one.
func TestPeekLeavesAndFreeTakes(t *testing.T) {
	r := New[string](1, 0)
	if v, e := r.Peek(); v != "" || e != api.ErrEmpty {
		t.Errorf("empty: %q, error %d", v, e)
	}
	r.Push("a")
	for range 2 {
		if v, e := r.Peek(); v != "a" || e != api.OK || r.Len() != 1 {
			t.Errorf("Peek: %q, error %d, Len %d", v, e, r.Len())
		}
	}
	if e := r.Free(); e != api.OK || r.Len() != 0 {
		t.Errorf("Free: error %d, Len %d", e, r.Len())
	}
	if v, e := r.Pop(); v != "" || e != api.ErrEmpty {
		t.Errorf("freed: %q, error %d", v, e)
	}
}

// P1.1: several at once, at the edges of how many are asked and how many there is room for.
func TestSeveralAtOnce(t *testing.T) {
	r := New[int](3, last)
	if n := r.PushAll(); n != 0 || r.Len() != 0 {
		t.Errorf("none: %d", n)
	}
	if n := r.PushAll(1, 2, 3, 4, 5); n != 3 || !slices.Equal(r.All(), []int{1, 2, 3}) {
		t.Errorf("more than the room: %d, %v", n, r.All())
	}
	if n := r.PushAll(6); n != 0 {
		t.Errorf("full: %d", n)
	}
	for _, most := range []int{math.MinInt, -1, 0} {
		if l := r.PopSome(most); len(l) != 0 || r.Len() != 3 {
			t.Errorf("at most %d: %v", most, l)
		}
	}
	if l := r.PopSome(2); !slices.Equal(l, []int{1, 2}) {
		t.Errorf("at most 2: %v", l)
	}
	if l := r.PopSome(math.MaxInt); !slices.Equal(l, []int{3}) || r.Len() != 0 {
		t.Errorf("all: %v", l)
	}
	if l := r.PopSome(1); len(l) != 0 {
		t.Errorf("of none: %v", l)
	}
}

// P1.1, and R4: what is handed in is not kept, what is answered is new memory.
func TestListsAreNotShared(t *testing.T) {
	r := New[int](4, last)
	in := []int{1, 2, 3}
	r.PushAll(in...)
	in[0] = 9
	r.All()[1] = 9
	if l := r.All(); !slices.Equal(l, []int{1, 2, 3}) {
		t.Errorf("kept or shared: %v", l)
	}
	some := r.PopSome(2)
	r.PushAll(4, 5, 6)
	if !slices.Equal(some, []int{1, 2}) || !slices.Equal(in, []int{9, 2, 3}) {
		t.Errorf("turned: %v, %v", some, in)
	}
}

// P1.1: what is taken out is not kept in its place.
func TestTakenOutIsForgotten(t *testing.T) {
	r := New[*int](3, last)
	r.PushAll(new(int), new(int), new(int))
	r.Pop()
	r.Free()
	r.PopSome(1)
	for i, p := range r.places {
		if p != nil {
			t.Errorf("place %d is still kept", i)
		}
	}
}

// P1.1, R7: of nil.
func TestNil(t *testing.T) {
	var r *Ring[string]
	for i, e := range []api.Errno{r.Push("a"), r.Lay("a"), r.Publish(), r.Free()} {
		if e != api.ErrArg {
			t.Errorf("call %d: error %d", i, e)
		}
	}
	if v, e := r.Pop(); v != "" || e != api.ErrArg {
		t.Errorf("Pop: %q, error %d", v, e)
	}
	if v, e := r.Peek(); v != "" || e != api.ErrArg {
		t.Errorf("Peek: %q, error %d", v, e)
	}
	if r.PushAll("a", "b") != 0 || len(r.PopSome(3)) != 0 || r.Len() != 0 || r.Room() != 0 || len(r.All()) != 0 {
		t.Error("nil has something")
	}
	if in, out := r.Counts(); in != 0 || out != 0 {
		t.Errorf("Counts: %d, %d", in, out)
	}
}

// T0: a Ring that New did not make panics no more than another; its room, 0, is one out of the bounds.
func TestRingThatNewDidNotMake(t *testing.T) {
	var r Ring[int]
	if _, e := r.Pop(); e != api.ErrEmpty {
		t.Errorf("Pop: error %d", e)
	}
	if n := r.PushAll(1, 2); n != 1 || !slices.Equal(r.All(), []int{1}) || r.Room() != 0 {
		t.Errorf("PushAll: %d, %v", n, r.All())
	}
}

// P1.2: what is put in is taken out, in its row, each once, with things in the ring all the while.
func TestInItsRow(t *testing.T) {
	for _, room := range []int{1, 2, 3, 5, 6, 100, 4096} {
		r := New[int](room, last-uint32(room))
		in, out := 0, 0
		for out < 3*room+1000 {
			for r.Push(in) == api.OK {
				in++
			}
			if r.Len() != room {
				t.Fatalf("room %d: %d things", room, r.Len())
			}
			for range room/2 + 1 {
				v, e := r.Pop()
				if v != out || e != api.OK {
					t.Fatalf("room %d: %d instead of %d, error %d", room, v, out, e)
				}
				out++
			}
		}
	}
}
