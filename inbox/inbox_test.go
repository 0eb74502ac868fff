package inbox

import (
	"math"
	"slices"
	"strconv"
	"strings"
	"testing"

	"reticule/api"
)

// draw makes numbers in a row that is always the same.
type draw uint64

func (d *draw) below(n int) int {
	*d = *d*6364136223846793005 + 1442695040888963407
	return int(uint64(*d) >> 33 % uint64(n))
}

func shuffled[T any](d *draw, l []T) []T {
	l = slices.Clone(l)
	for i := range l {
		j := d.below(i + 1)
		l[i], l[j] = l[j], l[i]
	}
	return l
}

// plain is what the document says an inbox is, on lists.
type plain struct {
	room     int
	in, wait []api.Packet
	next     [4096]int
}

func (m *plain) come(p api.Packet) api.Errno {
	for _, w := range m.wait {
		if w.Src == p.Src && w.Seq == p.Seq {
			return api.ErrState
		}
	}
	if p.Src < 0 || p.Src > 4095 || p.Seq < 0 || p.Seq > 65535 {
		return api.ErrArg
	}
	m.wait = append(m.wait, p)
	return api.OK
}

// ready tells the place, among those that wait, of the one that would be told; -1, if none would.
func (m *plain) ready() int {
	var sources []int
	for _, w := range m.wait {
		sources = append(sources, w.Src)
	}
	slices.Sort(sources)
	for _, src := range sources {
		for i, w := range m.wait {
			if w.Src == src && w.Seq == m.next[src] {
				return i
			}
		}
	}
	return -1
}

func (m *plain) tell() bool {
	i := m.ready()
	if i < 0 || len(m.in) == m.room {
		return false
	}
	p := m.wait[i]
	m.in = append(m.in, p)
	m.wait = slices.Delete(m.wait, i, i+1)
	m.next[p.Src]++
	if m.next[p.Src] == 65536 {
		m.next[p.Src] = 0
	}
	return true
}

func (m *plain) first() (api.Packet, api.Errno) {
	if len(m.in) == 0 {
		return api.Packet{}, api.ErrEmpty
	}
	return m.in[0], api.OK
}

func (m *plain) recv() (api.Packet, api.Errno) {
	p, e := m.first()
	if e == api.OK {
		m.in = m.in[1:]
	}
	return p, e
}

// call is one that changes an inbox: of a packet that comes, its source and its number.
type call struct {
	kind     int
	src, seq int
}

const (
	comes = iota
	tells
	recvs
)

// pair is an inbox and the plain one, which are asked the same; a fault is told with the calls that led to it.
type pair struct {
	t     *testing.T
	b     *Inbox
	m     *plain
	asked []call
	came  int
}

func newPair(t *testing.T, room int) *pair {
	return &pair{t: t, b: New(room), m: &plain{room: room}}
}

func (p *pair) ask(c call) {
	p.asked = append(p.asked, c)
	switch c.kind {
	case comes:
		p.came++ // so that no two packets are alike, whatever their numbers
		packet := api.Packet{Src: c.src, Dst: p.came, Seq: c.seq, Data: strconv.Itoa(p.came)}
		if got, want := p.b.Come(packet), p.m.come(packet); got != want {
			p.fault("Come", got, want)
		}
	case tells:
		if got, want := p.b.Tell(), p.m.tell(); got != want {
			p.fault("Tell", got, want)
		}
	case recvs:
		got, e := p.b.Recv()
		want, wantE := p.m.recv()
		if got != want || e != wantE {
			p.fault("Recv", []any{got, e}, []any{want, wantE})
		}
	}
	p.same(c.src)
}

// same holds all that can be told of the inbox against the plain one, of sources the one that was asked, and a few others; each is told twice, for telling changes nothing.
func (p *pair) same(src int) {
	for range 2 {
		got, e := p.b.Peek()
		want, wantE := p.m.first()
		if got != want || e != wantE {
			p.fault("Peek", []any{got, e}, []any{want, wantE})
		}
		p.number("Len", p.b.Len(), len(p.m.in))
		p.number("Room", p.b.Room(), p.m.room-len(p.m.in))
		p.number("Waits", p.b.Waits(), len(p.m.wait))
		for _, s := range []int{0, 1, 2, 4095, src} {
			if s >= 0 && s < len(p.m.next) {
				p.number("Next", p.b.Next(s), p.m.next[s])
			}
		}
		if got, want := p.b.Ready(), p.m.ready() >= 0; got != want {
			p.fault("Ready", got, want)
		}
	}
}

func (p *pair) number(what string, got, want int) {
	if got != want {
		p.fault(what, got, want)
	}
}

func (p *pair) fault(what string, got, want any) {
	p.t.Helper()
	led := p.asked[max(0, len(p.asked)-12):]
	p.t.Fatalf("room %d, behind the calls %v: %s: %v, want %v", p.m.room, led, what, got, want)
}

func packet(src, seq int, data string) api.Packet {
	return api.Packet{Src: src, Dst: 9, Seq: seq, Data: data}
}

// come lets packets come, all of which may.
func come(t *testing.T, b *Inbox, packets ...api.Packet) {
	t.Helper()
	for _, p := range packets {
		if e := b.Come(p); e != api.OK {
			t.Fatalf("Come of %v: error %d", p, e)
		}
	}
}

// drained tells and receives till there is nothing more; of an inbox that never ends, not all.
func drained(b *Inbox) []api.Packet {
	var all []api.Packet
	for range 10000 {
		b.Tell()
		p, e := b.Recv()
		if e != api.OK {
			break
		}
		all = append(all, p)
	}
	return all
}

// stands holds an inbox's numbers against those that are wanted.
func stands(t *testing.T, b *Inbox, has, room, waits int, ready bool) {
	t.Helper()
	if b.Len() != has || b.Room() != room || b.Waits() != waits || b.Ready() != ready {
		t.Errorf("has %d, room %d, waits %d, ready %v; want %d, %d, %d, %v",
			b.Len(), b.Room(), b.Waits(), b.Ready(), has, room, waits, ready)
	}
}

// receives holds the first packet in the inbox, looked at and taken out, against the one that is wanted.
func receives(t *testing.T, b *Inbox, want api.Packet) {
	t.Helper()
	if p, e := b.Peek(); p != want || e != api.OK {
		t.Errorf("Peek: %v, error %d; want %v", p, e, want)
	}
	if p, e := b.Recv(); p != want || e != api.OK {
		t.Errorf("Recv: %v, error %d; want %v", p, e, want)
	}
}

// upTo brings the next number of a source from 0 to the one that is told.
func upTo(t *testing.T, b *Inbox, src, seq int) {
	t.Helper()
	for n := range seq {
		come(t, b, packet(src, n, ""))
		if !b.Tell() || b.Next(src) != n+1 {
			t.Fatalf("behind the number %d of the source %d, %d is next", n, src, b.Next(src))
		}
		b.Recv()
	}
}

// P16.1: the example of the chapter.
func TestExample(t *testing.T) {
	b := New(4)
	come(t, b, packet(3, 1, "b"))
	if b.Tell() {
		t.Error("1 was told ahead of 0")
	}
	come(t, b, packet(3, 0, "a"))
	if !b.Tell() || !b.Tell() || b.Tell() {
		t.Error("just both are told")
	}
	receives(t, b, packet(3, 0, "a"))
	receives(t, b, packet(3, 1, "b"))
}

// P16.1, P16.2: all rows of calls, so that each meets an inbox's edges.
func TestEveryRowOfCalls(t *testing.T) {
	calls := []call{{kind: tells}, {kind: recvs}}
	for src := range 2 {
		for seq := range 3 {
			calls = append(calls, call{comes, src, seq})
		}
	}
	const long = 5
	rows := 1
	for range long {
		rows *= len(calls)
	}
	for room := 1; room <= 3; room++ {
		for row := range rows {
			p := newPair(t, room)
			for range long {
				p.ask(calls[row%len(calls)])
				row /= len(calls)
			}
			for range long {
				p.ask(call{kind: tells})
				p.ask(call{kind: recvs})
			}
		}
	}
}

// P16.1, P16.2: long rows of calls, in which numbers come ahead of and behind their turn, go round behind 65535, or aren't there; now the one side, now the other one lags behind.
func TestLongRowsOfCalls(t *testing.T) {
	d := draw(16)
	sources := []int{0, 1, 2, 4095, 4094, 63}
	for _, room := range []int{1, 2, 5, 64} {
		p := newPair(t, room)
		for _, src := range sources {
			upTo(t, p.b, src, 65500)
			p.m.next[src] = 65500
		}
		for range 20 {
			often := slices.Repeat([]int{comes}, 1+d.below(4))
			often = append(often, slices.Repeat([]int{tells}, 1+d.below(4))...)
			often = append(often, slices.Repeat([]int{recvs}, 1+d.below(4))...)
			for range 200 {
				src := sources[d.below(len(sources))]
				seq := (p.m.next[src] + d.below(5) + 65535) % 65536
				switch d.below(40) {
				case 0:
					src = []int{-1, 4096}[d.below(2)]
				case 1:
					seq = []int{-1, 65536}[d.below(2)]
				}
				p.ask(call{often[d.below(len(often))], src, seq})
			}
		}
		if p.m.next[0] >= 65500 {
			t.Errorf("room %d: the numbers did not go round", room)
		}
	}
}

// P16.1: rooms at and out of the bounds are the nearer one of both.
func TestRoomIsHeldToItsBounds(t *testing.T) {
	for _, x := range []struct{ room, want int }{
		{math.MinInt, 1}, {-1, 1}, {0, 1}, {1, 1}, {2, 2}, {63, 63}, {64, 64}, {65, 64}, {4096, 64}, {math.MaxInt, 64},
	} {
		b := New(x.room)
		stands(t, b, 0, x.want, 0, false)
		for seq := range x.want + 1 {
			come(t, b, packet(0, seq, ""))
		}
		told := 0
		for told < 100 && b.Tell() {
			told++
		}
		if told != x.want {
			t.Errorf("room %d: %d were told, not %d", x.room, told, x.want)
		}
		stands(t, b, x.want, 0, 1, true)
	}
}

// P16.1: a new inbox has nothing, and the next number of each source is 0.
func TestNew(t *testing.T) {
	b := New(3)
	stands(t, b, 0, 3, 0, false)
	if b.Tell() {
		t.Error("one was told")
	}
	for _, ask := range []func() (api.Packet, api.Errno){b.Recv, b.Peek} {
		if p, e := ask(); p != (api.Packet{}) || e != api.ErrEmpty {
			t.Errorf("%v, error %d", p, e)
		}
	}
	for src := range 4096 {
		if n := b.Next(src); n != 0 {
			t.Fatalf("the source %d: %d is next", src, n)
		}
	}
}

// P16.1: sources and numbers at the bounds and past them; what is refused changes nothing (R3).
func TestComeAtTheBounds(t *testing.T) {
	b := New(2)
	come(t, b, packet(5, 0, "x"), packet(5, 1, "y"))
	b.Tell()
	for _, n := range [][2]int{
		{-1, 0}, {4096, 0}, {math.MinInt, 0}, {math.MaxInt, 0}, {1 << 32, 0}, {0, -1}, {0, 65536}, {0, math.MinInt}, {0, math.MaxInt}, {0, 1 << 32},
		{-1, -1}, {4096, 65536}, {-1, 65536}, {4095, 65536}, {4096, 65535},
	} {
		for range 2 {
			if e := b.Come(packet(n[0], n[1], "z")); e != api.ErrArg {
				t.Errorf("source %d, number %d: error %d", n[0], n[1], e)
			}
		}
		stands(t, b, 1, 1, 1, true)
	}
	come(t, b, packet(0, 0, ""), packet(4095, 0, ""), packet(0, 65535, ""), packet(4095, 65535, ""))
	stands(t, b, 1, 1, 5, true)
	if got, want := drained(b), []api.Packet{packet(5, 0, "x"), packet(0, 0, ""), packet(5, 1, "y"), packet(4095, 0, "")}; !slices.Equal(got, want) {
		t.Errorf("received %v", got)
	}
	stands(t, b, 0, 2, 2, false)
}

// P16.1: a source and number that waits already is refused, and the one that waits stays as it is.
func TestComeTwice(t *testing.T) {
	b := New(2)
	come(t, b, packet(1, 0, "first"), packet(1, 1, "second"))
	for range 2 {
		for _, p := range []api.Packet{packet(1, 0, "first"), packet(1, 0, "other"), packet(1, 1, ""), {Src: 1, Dst: 7, Seq: 1}} {
			if e := b.Come(p); e != api.ErrState {
				t.Errorf("%v: error %d", p, e)
			}
		}
		stands(t, b, 0, 2, 2, true)
	}
	come(t, b, packet(2, 0, "of another source"), packet(0, 1, "too"))
	if got, want := drained(b), []api.Packet{packet(1, 0, "first"), packet(1, 1, "second"), packet(2, 0, "of another source")}; !slices.Equal(got, want) {
		t.Errorf("received %v", got)
	}
}

// P16.1: a number that was told waits no more: it may come again, but it is told only when it is next again.
func TestComeAgain(t *testing.T) {
	b := New(1)
	come(t, b, packet(6, 0, "first"))
	b.Tell()
	come(t, b, packet(6, 0, "again"))
	stands(t, b, 1, 0, 1, false)
	receives(t, b, packet(6, 0, "first"))
	if b.Tell() || b.Come(packet(6, 0, "once more")) != api.ErrState {
		t.Error("it doesn't wait")
	}
	for seq := 1; seq < 65535; seq++ {
		come(t, b, packet(6, seq, ""))
		b.Tell()
		b.Recv()
	}
	stands(t, b, 0, 1, 1, false)
	come(t, b, packet(6, 65535, "last"))
	if got, want := drained(b), []api.Packet{packet(6, 65535, "last"), packet(6, 0, "again")}; !slices.Equal(got, want) {
		t.Errorf("received %v", got)
	}
	if n := b.Next(6); n != 1 {
		t.Errorf("%d is next", n)
	}
}

// P16.1: behind 65535 comes 0, of each source for itself.
func TestNumbersGoRound(t *testing.T) {
	for _, src := range []int{0, 4095} {
		b := New(8)
		upTo(t, b, src, 65534)
		var want []api.Packet
		for _, seq := range []int{65534, 65535, 0, 1} {
			want = append(want, packet(src, seq, strconv.Itoa(seq)))
		}
		for _, i := range []int{3, 2, 1, 0} {
			come(t, b, want[i])
			if b.Ready() != (i == 0) {
				t.Errorf("the number %d has come: ready %v", want[i].Seq, b.Ready())
			}
		}
		for _, next := range []int{65535, 0, 1, 2} {
			if !b.Tell() || b.Next(src) != next {
				t.Errorf("%d is next, not %d", b.Next(src), next)
			}
		}
		if got := drained(b); !slices.Equal(got, want) {
			t.Errorf("received %v", got)
		}
		if n := b.Next(1); n != 0 {
			t.Errorf("of another source %d is next", n)
		}
	}
}

// P16.1: the least source of those that are ready is told first, whatever the row in which they came, and whatever else waits.
func TestLeastSourceIsTold(t *testing.T) {
	d := draw(3)
	var packets, want []api.Packet
	for _, src := range []int{0, 1, 2, 7, 8, 63, 64, 255, 256, 1000, 4094, 4095} {
		packets = append(packets, packet(src, 0, "a"), packet(src, 2, "c"))
		want = append(want, packet(src, 0, "a"))
	}
	packets = append(packets, packet(3, 1, "b"), packet(5, 65535, "z"))
	for range 300 {
		b := New(64)
		come(t, b, shuffled(&d, packets)...)
		for range packets {
			b.Tell()
		}
		if got := drained(b); !slices.Equal(got, want) {
			t.Fatalf("received %v", got)
		}
		stands(t, b, 0, 64, len(packets)-len(want), false)
	}
}

// P16.1: the least source goes first as long as its next number waits, though others wait longer; and one that comes behind them, too.
func TestLeastSourceGoesOn(t *testing.T) {
	b := New(3)
	come(t, b, packet(9, 0, "9a"), packet(4, 1, "4b"), packet(4, 0, "4a"))
	b.Tell()
	come(t, b, packet(2, 0, "2a"), packet(4, 2, "4c"))
	b.Tell()
	b.Tell()
	for _, want := range []api.Packet{packet(4, 0, "4a"), packet(2, 0, "2a"), packet(4, 1, "4b")} {
		receives(t, b, want)
	}
	if got, want := drained(b), []api.Packet{packet(4, 2, "4c"), packet(9, 0, "9a")}; !slices.Equal(got, want) {
		t.Errorf("received %v", got)
	}
}

// P16.1: without room none is told, though one is ready; it is, as soon as one was received.
func TestTellWithoutRoom(t *testing.T) {
	b := New(2)
	come(t, b, packet(1, 0, "a"), packet(1, 1, "b"), packet(1, 2, "c"), packet(1, 4, "e"))
	b.Tell()
	b.Tell()
	for range 3 {
		if b.Tell() || b.Next(1) != 2 {
			t.Error("told without room")
		}
		stands(t, b, 2, 0, 2, true)
	}
	receives(t, b, packet(1, 0, "a"))
	stands(t, b, 1, 1, 2, true)
	if !b.Tell() || b.Tell() || b.Next(1) != 3 {
		t.Error("one is told, and no more")
	}
	stands(t, b, 2, 0, 1, false)
	receives(t, b, packet(1, 1, "b"))
	receives(t, b, packet(1, 2, "c"))
	if b.Tell() {
		t.Error("4 was told ahead of 3")
	}
}

// P16.1: how many may wait has no bound but that of sources and numbers; the room is that of those which were told.
func TestManyWait(t *testing.T) {
	b := New(1)
	for src := range 4096 {
		come(t, b, packet(src, 1, ""))
	}
	stands(t, b, 0, 1, 4096, false)
	for seq := 2; seq < 5000; seq++ {
		come(t, b, packet(4095, seq, ""))
	}
	stands(t, b, 0, 1, 4096+4998, false)
	come(t, b, packet(4095, 0, "x"))
	if !b.Tell() || b.Tell() || b.Next(4095) != 1 {
		t.Error("just one is told")
	}
	receives(t, b, packet(4095, 0, "x"))
	stands(t, b, 0, 1, 4096+4998, true)
}

// P16.1: a packet is received as it came: for whomever it is, and whatever its bytes are.
func TestPacketsStayAsTheyAre(t *testing.T) {
	b := New(8)
	var want []api.Packet
	for i, data := range []string{"", "\x00", "\xff\xfe", "ä, ö\n", strings.Repeat("x", 64), strings.Repeat("y", 1000)} {
		want = append(want, api.Packet{Src: 17, Dst: []int{0, 17, 4095, -1, math.MinInt, math.MaxInt}[i], Seq: i, Data: data})
	}
	come(t, b, want...)
	if got := drained(b); !slices.Equal(got, want) {
		t.Errorf("received %v", got)
	}
}

// P16.1: the next number of what is no source is 0.
func TestNextOfNoSource(t *testing.T) {
	b := New(1)
	upTo(t, b, 0, 3)
	upTo(t, b, 4095, 2)
	for _, src := range []int{math.MinInt, -4096, -1, 4096, 8191, 1 << 32, math.MaxInt} {
		if n := b.Next(src); n != 0 {
			t.Errorf("the source %d: %d", src, n)
		}
	}
	if b.Next(0) != 3 || b.Next(1) != 0 || b.Next(4095) != 2 {
		t.Errorf("%d, %d, %d", b.Next(0), b.Next(1), b.Next(4095))
	}
}

// P16.2: in whatever row few packets come, those of a source are received in the row of their numbers, each once, whenever they are told and received.
func TestEveryRowOfPackets(t *testing.T) {
	var packets []api.Packet
	for _, src := range []int{3, 8} {
		for seq := range 3 {
			packets = append(packets, packet(src, seq, strconv.Itoa(src)+strconv.Itoa(seq)))
		}
	}
	for _, row := range permutations(packets) {
		for often := 1; often <= 3; often++ {
			b := New(often)
			var got []api.Packet
			for i, p := range row {
				come(t, b, p)
				if i%often == 0 {
					b.Tell()
				}
				if q, e := b.Recv(); e == api.OK {
					got = append(got, q)
				}
			}
			inTheirRow(t, append(got, drained(b)...), packets)
		}
	}
}

func permutations[T any](l []T) [][]T {
	if len(l) == 0 {
		return [][]T{nil}
	}
	var all [][]T
	for i, v := range l {
		others := slices.Concat(l[:i], l[i+1:])
		for _, rest := range permutations(others) {
			all = append(all, append([]T{v}, rest...))
		}
	}
	return all
}

// inTheirRow holds the packets that were received, of each source, against those that came, told source by source in the row of their numbers.
func inTheirRow(t *testing.T, got, want []api.Packet) {
	t.Helper()
	bySource := slices.Clone(got)
	slices.SortStableFunc(bySource, func(p, q api.Packet) int { return p.Src - q.Src })
	if !slices.Equal(bySource, want) {
		t.Fatalf("received %v", got)
	}
}

// P16.2: likewise of many packets, which come, are told and are received at random.
func TestManyRowsOfPackets(t *testing.T) {
	d := draw(62)
	var packets []api.Packet
	for _, src := range []int{0, 5, 77, 4000, 4095} {
		for seq := range 40 + src%50 {
			packets = append(packets, packet(src, seq, strconv.Itoa(d.below(1000))))
		}
	}
	for _, room := range []int{1, 3, 64} {
		for range 20 {
			b := New(room)
			var got []api.Packet
			for _, p := range shuffled(&d, packets) {
				come(t, b, p)
				for range d.below(3) {
					b.Tell()
				}
				for range d.below(3) {
					if q, e := b.Recv(); e == api.OK {
						got = append(got, q)
					}
				}
				if b.Len() > room {
					t.Fatalf("room %d: %d packets", room, b.Len())
				}
			}
			inTheirRow(t, append(got, drained(b)...), packets)
			stands(t, b, 0, room, 0, false)
		}
	}
}

// P16.1: packets in the inbox are received in the row in which they were told, while others come and go.
func TestReceivedAsTold(t *testing.T) {
	b := New(3)
	come(t, b, packet(8, 0, "8"), packet(9, 0, "9"))
	b.Tell()
	b.Tell()
	come(t, b, packet(1, 0, "1"))
	b.Tell()
	stands(t, b, 3, 0, 0, false)
	for _, want := range []api.Packet{packet(8, 0, "8"), packet(9, 0, "9"), packet(1, 0, "1")} {
		receives(t, b, want)
	}
	if _, e := b.Recv(); e != api.ErrEmpty {
		t.Errorf("received more: error %d", e)
	}
}

func TestEachHasItsOwn(t *testing.T) {
	a, b := New(2), New(2)
	come(t, a, packet(1, 0, "a"), packet(1, 1, "b"))
	a.Tell()
	stands(t, b, 0, 2, 0, false)
	if b.Next(1) != 0 || b.Come(packet(1, 1, "c")) != api.OK || b.Tell() {
		t.Error("the other one has something of it")
	}
	stands(t, a, 1, 1, 1, true)
}

// P16.1, R7: of nil. T0: an Inbox that New did not make answers likewise, and panics no more than another one.
func TestNilAndNotMadeByNew(t *testing.T) {
	for _, b := range []*Inbox{nil, {}} {
		for range 2 {
			for _, p := range []api.Packet{packet(1, 0, "a"), packet(-1, 0, ""), packet(0, 65536, "")} {
				if e := b.Come(p); e != api.ErrArg {
					t.Errorf("Come: error %d", e)
				}
			}
			for _, ask := range []func() (api.Packet, api.Errno){b.Recv, b.Peek} {
				if p, e := ask(); p != (api.Packet{}) || e != api.ErrArg {
					t.Errorf("%v, error %d", p, e)
				}
			}
			if b.Tell() || b.Next(1) != 0 || b.Next(-1) != 0 {
				t.Error("it has something")
			}
			stands(t, b, 0, 0, 0, false)
		}
	}
}
