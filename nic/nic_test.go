package nic

import (
	"math"
	"slices"
	"strconv"
	"strings"
	"testing"

	"reticule/api"
	"reticule/bits"
	"reticule/cut"
	"reticule/flit"
	"reticule/inbox"
	"reticule/join"
)

// draw makes numbers in a row that is always the same.
type draw uint64

func (d *draw) below(n int) int {
	*d = *d*6364136223846793005 + 1442695040888963407
	return int(uint64(*d) >> 33 % uint64(n))
}

// mesh is a config of 3x2 nodes.
func mesh(lanes, room int, cast bool) api.Config {
	return api.Config{W: 3, H: 2, Lanes: lanes, Depth: 1, Ring: 1, Inbox: room, Bound: 1, Cast: cast}
}

// plain is what the document says a nic is: words in a list, and of layers 11 and 16 what they are themselves.
type plain struct {
	c     api.Config
	node  int
	words []api.Cell
	sent  int
	joins map[[2]int]*join.Join
	box   *inbox.Inbox
}

func newPlain(c api.Config, node int) *plain {
	m := &plain{c: c, node: node, joins: map[[2]int]*join.Join{}, box: inbox.New(c.Inbox)}
	for port := range 5 {
		for l := range c.Lanes {
			m.joins[[2]int{port, l}] = join.New()
		}
	}
	return m
}

func (m *plain) send(p cut.Parcel) api.Errno {
	words, e := cut.Words(p)
	if e != api.OK {
		return e
	}
	for _, to := range p.Heads {
		if p.Src != m.node || to.Node >= m.c.W*m.c.H {
			return api.ErrNode
		}
	}
	var lanes []int
	for l := range m.c.Lanes {
		if last := l == m.c.Lanes-1; m.c.Cast && last == p.Cast || !m.c.Cast && !p.Cast {
			lanes = append(lanes, l)
		}
	}
	if len(lanes) == 0 {
		return api.ErrConfig
	}
	for _, word := range words {
		m.words = append(m.words, api.Cell{Lane: lanes[m.sent%len(lanes)], Word: word})
	}
	m.sent++
	return api.OK
}

func (m *plain) first() (api.Cell, api.Errno) {
	if len(m.words) == 0 {
		return api.Cell{}, api.ErrEmpty
	}
	return m.words[0], api.OK
}

func (m *plain) put() (api.Cell, api.Errno) {
	cell, e := m.first()
	if e == api.OK {
		m.words = m.words[1:]
	}
	return cell, e
}

func (m *plain) take(port, l int, word uint64) api.Errno {
	j, is := m.joins[[2]int{port, l}]
	if !is {
		return api.ErrArg
	}
	packet, whole, e := j.Take(word)
	if e != api.OK || !whole {
		return e
	}
	return m.box.Come(packet)
}

func (m *plain) begun() int {
	n := 0
	for _, j := range m.joins {
		if j.Begun() {
			n++
		}
	}
	return n
}

// call is one that changes a nic: what it is handed hangs on its kind.
type call struct {
	kind    int
	parcel  cut.Parcel
	port, l int
	word    uint64
}

const (
	sends = iota
	puts
	takes
	tells
	recvs
)

// pair is a nic and the plain one, which are asked the same; a fault is told with the calls that led to it.
type pair struct {
	t     *testing.T
	n     *Nic
	m     *plain
	asked []call
}

func newPair(t *testing.T, c api.Config, node int) *pair {
	n := New(c, node)
	if n == nil {
		t.Fatalf("%v: no nic of the node %d", c, node)
	}
	return &pair{t: t, n: n, m: newPlain(c, node)}
}

func (p *pair) ask(c call) {
	p.asked = append(p.asked, c)
	switch c.kind {
	case sends:
		hold(p, "Send", p.n.Send(c.parcel), p.m.send(c.parcel))
	case puts:
		cell, e := p.n.Put()
		want, wantE := p.m.put()
		hold(p, "Put", cell, want)
		hold(p, "Put's error", e, wantE)
	case takes:
		hold(p, "Take", p.n.Take(c.port, c.l, c.word), p.m.take(c.port, c.l, c.word))
	case tells:
		hold(p, "Tell", p.n.Tell(), p.m.box.Tell())
	case recvs:
		packet, e := p.n.Recv()
		want, wantE := p.m.box.Recv()
		hold(p, "Recv", packet, want)
		hold(p, "Recv's error", e, wantE)
	}
	p.same()
}

// same holds all that can be told of the nic against the plain one; each is told twice, for telling changes nothing.
func (p *pair) same() {
	for range 2 {
		cell, e := p.n.First()
		want, wantE := p.m.first()
		hold(p, "First", cell, want)
		hold(p, "First's error", e, wantE)
		hold(p, "Left", p.n.Left(), len(p.m.words))
		hold(p, "Sent", p.n.Sent(), p.m.sent)
		hold(p, "Begun", p.n.Begun(), p.m.begun())
		hold(p, "Len", p.n.Len(), p.m.box.Len())
		hold(p, "Room", p.n.Room(), p.m.box.Room())
		hold(p, "Waits", p.n.Waits(), p.m.box.Waits())
		hold(p, "Ready", p.n.Ready(), p.m.box.Ready())
		for src := -1; src < 7; src++ {
			hold(p, "Next", p.n.Next(src), p.m.box.Next(src))
		}
	}
}

func hold[T comparable](p *pair, what string, got, want T) {
	p.t.Helper()
	if got != want {
		led := p.asked[max(0, len(p.asked)-12):]
		p.t.Fatalf("%v, the node %d, behind the calls %v: %s: %v, want %v", p.m.c, p.m.node, led, what, got, want)
	}
}

func single(src, dst, seq int, data string) cut.Parcel {
	return cut.Parcel{Src: src, Heads: []cut.To{{Node: dst, Seq: seq}}, Data: data}
}

// several tells a parcel that is Cast, and whose numbers are all 0.
func several(src int, data string, nodes ...int) cut.Parcel {
	p := cut.Parcel{Src: src, Cast: true, Data: data}
	for _, n := range nodes {
		p.Heads = append(p.Heads, cut.To{Node: n})
	}
	return p
}

func words(t *testing.T, p cut.Parcel) []uint64 {
	t.Helper()
	l, e := cut.Words(p)
	if e != api.OK {
		t.Fatalf("%v: error %d", p, e)
	}
	return l
}

// send sends parcels, all of which may be.
func send(t *testing.T, n *Nic, parcels ...cut.Parcel) {
	t.Helper()
	for _, p := range parcels {
		if e := n.Send(p); e != api.OK {
			t.Fatalf("Send of %v: error %d", p, e)
		}
	}
}

// take hands words over, all of which are taken.
func take(t *testing.T, n *Nic, port, l int, words ...uint64) {
	t.Helper()
	for i, w := range words {
		if e := n.Take(port, l, w); e != api.OK {
			t.Fatalf("Take of the word %d of %d by the port %d and lane %d: error %d", i, len(words), port, l, e)
		}
	}
}

// putsOut holds the next words, looked at and taken out, against a parcel's, all on that lane.
func putsOut(t *testing.T, n *Nic, l int, p cut.Parcel) {
	t.Helper()
	for _, word := range words(t, p) {
		want := api.Cell{Lane: l, Word: word}
		if cell, e := n.First(); cell != want || e != api.OK {
			t.Fatalf("%v: First: %v, error %d; want %v", p, cell, e, want)
		}
		if cell, e := n.Put(); cell != want || e != api.OK {
			t.Fatalf("%v: Put: %v, error %d; want %v", p, cell, e, want)
		}
	}
}

func isEmpty(t *testing.T, n *Nic) {
	t.Helper()
	for _, ask := range []func() (api.Cell, api.Errno){n.First, n.Put} {
		if cell, e := ask(); cell != (api.Cell{}) || e != api.ErrEmpty {
			t.Errorf("%v, error %d", cell, e)
		}
	}
	if n.Left() != 0 {
		t.Errorf("%d words left", n.Left())
	}
}

// received tells and receives till there is nothing more; of an inbox that never ends, not all.
func received(n *Nic) []api.Packet {
	var all []api.Packet
	for range 10000 {
		n.Tell()
		p, e := n.Recv()
		if e != api.OK {
			break
		}
		all = append(all, p)
	}
	return all
}

// stands holds a nic's numbers against those that are wanted.
func stands(t *testing.T, n *Nic, left, sent, begun, waits int) {
	t.Helper()
	if n.Left() != left || n.Sent() != sent || n.Begun() != begun || n.Waits() != waits {
		t.Errorf("left %d, sent %d, begun %d, waits %d; want %d, %d, %d, %d",
			n.Left(), n.Sent(), n.Begun(), n.Waits(), left, sent, begun, waits)
	}
}

// P17.1: the example of the chapter.
func TestExample(t *testing.T) {
	n := New(mesh(2, 1, false), 0)
	p := single(0, 5, 0, "abcdefgh")
	send(t, n, p)
	stands(t, n, 3, 1, 0, 0)
	putsOut(t, n, 0, p)
	isEmpty(t, n)
}

// P17.1, P17.2: all rows of calls, so that each meets a nic's edges.
func TestEveryRowOfCalls(t *testing.T) {
	w := words(t, single(3, 1, 0, "a"))
	calls := []call{
		{kind: sends, parcel: single(1, 0, 0, "a")},
		{kind: sends, parcel: several(1, "", 2, 5)},
		{kind: sends, parcel: single(0, 1, 0, "a")},
		{kind: puts},
		{kind: takes, port: api.Local, l: 0, word: w[0]},
		{kind: takes, port: api.Local, l: 0, word: w[1]},
		{kind: takes, port: api.South, l: 1, word: w[0]},
		{kind: takes, port: api.South, l: 1, word: w[1]},
		{kind: tells},
		{kind: recvs},
	}
	const long = 4
	rows := 1
	for range long {
		rows *= len(calls)
	}
	for _, c := range []api.Config{mesh(2, 1, false), mesh(3, 1, true)} {
		for row := range rows {
			p := newPair(t, c, 1)
			for range long {
				p.ask(calls[row%len(calls)])
				row /= len(calls)
			}
			for range 4 * 3 {
				p.ask(call{kind: puts})
			}
			p.ask(call{kind: tells})
			p.ask(call{kind: recvs})
		}
	}
}

// stream is words that come by a port and lane, parcel by parcel.
type stream struct {
	port, l int
	words   []uint64
}

// next tells the stream's next word; now and then one that is wrong there, or another than the next one.
func (s *stream) next(d *draw, c api.Config, seqs *[6]int) uint64 {
	if len(s.words) == 0 {
		src := d.below(6)
		s.words, _ = cut.Words(single(src, d.below(6), seqs[src]%8, strings.Repeat("x", d.below(20))))
		seqs[src] += d.below(8) / 2 % 3 // some come twice, and some are missing for a while
	}
	word := s.words[0]
	switch d.below(30) {
	case 0:
		return word ^ 1
	case 1:
		return s.words[len(s.words)-1]
	case 2:
		return bits.Seal(7)
	}
	s.words = s.words[1:]
	return word
}

// P17.1, P17.2: long rows of calls, in which words come by all ports and lanes, some of them where they may not; now the one side, now the other one lags behind.
func TestLongRowsOfCalls(t *testing.T) {
	d := draw(17)
	for lanes := 1; lanes <= 8; lanes++ {
		for _, cast := range []bool{false, true}[:min(lanes, 2)] {
			c := mesh(lanes, 1+d.below(4), cast)
			p := newPair(t, c, d.below(6))
			var streams []*stream
			for port := range 5 {
				for l := range lanes {
					streams = append(streams, &stream{port: port, l: l})
				}
			}
			streams = append(streams, &stream{port: -1}, &stream{port: 5}, &stream{l: -1}, &stream{l: lanes})
			var seqs [6]int
			for range 8 {
				often := slices.Repeat([]int{sends}, 1+d.below(2))
				often = append(often, slices.Repeat([]int{puts}, 1+d.below(6))...)
				often = append(often, slices.Repeat([]int{takes}, 4+d.below(8))...)
				often = append(often, slices.Repeat([]int{tells}, 1+d.below(3))...)
				often = append(often, slices.Repeat([]int{recvs}, 1+d.below(3))...)
				for range 150 {
					s := streams[d.below(len(streams))]
					p.ask(call{
						kind:   often[d.below(len(often))],
						parcel: anyParcel(&d, p.m.node),
						port:   s.port, l: s.l,
						word: s.next(&d, c, &seqs),
					})
				}
			}
		}
	}
}

// anyParcel tells a parcel of a node; now and then one that may not be.
func anyParcel(d *draw, node int) cut.Parcel {
	p := several(node, strings.Repeat("y", d.below(66)))
	for range 1 + d.below(3) {
		p.Heads = append(p.Heads, cut.To{Node: d.below(6), Seq: d.below(65536)})
	}
	if p.Cast = d.below(3) == 0; !p.Cast {
		p.Heads = p.Heads[:1]
	}
	switch d.below(20) {
	case 0:
		p.Heads[0].Node = 6
	case 1:
		p.Src = d.below(8)
	case 2:
		p.Heads = nil
	}
	return p
}

// P17.1: of a config that may not be, and of what is no node of it, there is no nic.
func TestNew(t *testing.T) {
	good := mesh(2, 3, true)
	for node := range 6 {
		n := New(good, node)
		if n == nil {
			t.Fatalf("the node %d has none", node)
		}
		stands(t, n, 0, 0, 0, 0)
		isEmpty(t, n)
		if n.Len() != 0 || n.Room() != 3 || n.Ready() || n.Tell() || n.Next(0) != 0 {
			t.Errorf("the node %d: the inbox isn't a new one", node)
		}
		if p, e := n.Recv(); p != (api.Packet{}) || e != api.ErrEmpty {
			t.Errorf("received %v, error %d", p, e)
		}
	}
	for _, node := range []int{-1, 6, 4095, 4096, math.MinInt, math.MaxInt} {
		if New(good, node) != nil {
			t.Errorf("the node %d has one", node)
		}
	}
	for i, change := range []func(c *api.Config){
		func(c *api.Config) { *c = api.Config{} },
		func(c *api.Config) { c.W = 0 },
		func(c *api.Config) { c.H = 65 },
		func(c *api.Config) { c.Lanes = 1 },
		func(c *api.Config) { c.Lanes = 9 },
		func(c *api.Config) { c.Depth = 0 },
		func(c *api.Config) { c.Ring = 65 },
		func(c *api.Config) { c.Inbox = 0 },
		func(c *api.Config) { c.Bound = 17 },
	} {
		c := good
		change(&c)
		if New(c, 0) != nil {
			t.Errorf("change %d: %v has a nic", i, c)
		}
	}
}

// P17.1: the inbox has the config's room.
func TestRoomOfTheInbox(t *testing.T) {
	for _, room := range []int{1, 2, 64} {
		n := New(mesh(1, room, false), 4)
		for seq := range room + 1 {
			take(t, n, api.West, 0, words(t, single(0, 4, seq, "a"))...)
		}
		told := 0
		for told < 100 && n.Tell() {
			told++
		}
		if told != room || n.Len() != room || n.Room() != 0 || n.Waits() != 1 || !n.Ready() || n.Next(0) != room {
			t.Errorf("room %d: %d were told", room, told)
		}
	}
}

// P17.1: a parcel's lane is of its class, by how many parcels of both classes were sent ahead of it.
func TestLanes(t *testing.T) {
	one, more := single(2, 0, 0, "abcdefg"), several(2, "a", 3, 4)
	for lanes := 1; lanes <= 8; lanes++ {
		n := New(mesh(lanes, 1, false), 2)
		for i := range 20 {
			send(t, n, one)
			putsOut(t, n, i%lanes, one)
		}
	}
	for lanes := 2; lanes <= 8; lanes++ {
		n := New(mesh(lanes, 1, true), 2)
		for i := range 20 {
			p, l := one, i%(lanes-1)
			if i%5 == 1 || i%7 == 4 {
				p, l = more, lanes-1
			}
			send(t, n, p)
			putsOut(t, n, l, p)
		}
		isEmpty(t, n)
	}
}

// P17.2: all words of parcels that were sent are put in, in the row of sending, each on its parcel's lane, whenever they are put.
func TestPutInItsRow(t *testing.T) {
	var parcels []cut.Parcel
	for i := range 40 {
		p := single(5, i%6, i, strings.Repeat(strconv.Itoa(i%10), i*3%65))
		if i%4 == 3 {
			p = several(5, p.Data, 4, 1, 0)
		}
		parcels = append(parcels, p)
	}
	lane := func(i int) int {
		if parcels[i].Cast {
			return 3
		}
		return i % 3
	}
	for _, ahead := range []int{1, 2, 3, 7, 40} {
		n := New(mesh(4, 1, true), 5)
		done := 0
		for i, p := range parcels {
			send(t, n, p)
			if i+1-done == ahead {
				putsOut(t, n, lane(done), parcels[done])
				done++
			}
		}
		for ; done < len(parcels); done++ {
			putsOut(t, n, lane(done), parcels[done])
		}
		stands(t, n, 0, 40, 0, 0)
		isEmpty(t, n)
	}
}

// P17.1: First changes nothing; words that are left are counted one by one.
func TestLeftGoesDown(t *testing.T) {
	n := New(mesh(2, 1, true), 0)
	send(t, n, single(0, 1, 0, ""), several(0, "abcdef", 1, 2, 3), single(0, 0, 1, "abcdefghijklm"))
	for left := 2 + 4 + 4; left > 0; left-- {
		stands(t, n, left, 3, 0, 0)
		first, _ := n.First()
		again, _ := n.First()
		if put, e := n.Put(); put != first || put != again || e != api.OK {
			t.Errorf("%d left: %v, %v, then %v, error %d", left, first, again, put, e)
		}
	}
	isEmpty(t, n)
}

// P17.1: a parcel that may not be is refused, by the error that the chapter names first, and changes nothing (R1, R3).
func TestSendOfWhatMayNotBe(t *testing.T) {
	long := strings.Repeat("x", 65)
	none := cut.Parcel{Src: 1}
	big := several(1, "", slices.Repeat([]int{0}, 4097)...)
	c := mesh(2, 1, false)
	for i, x := range []struct {
		p cut.Parcel
		e api.Errno
	}{
		{single(1, 0, 0, long), api.ErrSize},
		{single(9, -1, 70000, long), api.ErrSize},
		{cut.Parcel{Data: long}, api.ErrSize},
		{several(1, long, 6), api.ErrSize},
		{none, api.ErrArg},
		{cut.Parcel{Src: 9}, api.ErrArg},
		{cut.Parcel{Src: 1, Cast: true}, api.ErrArg},
		{big, api.ErrArg},
		{single(-1, 0, 0, ""), api.ErrArg},
		{single(4096, 0, 0, ""), api.ErrArg},
		{single(1, -1, 0, ""), api.ErrArg},
		{single(1, 4096, 0, ""), api.ErrArg},
		{single(1, 0, -1, ""), api.ErrArg},
		{single(1, 0, 65536, ""), api.ErrArg},
		{single(0, 6, -1, ""), api.ErrArg},
		{cut.Parcel{Src: 1, Heads: []cut.To{{Node: 0}, {Node: 2}}}, api.ErrArg},
		{single(0, 1, 0, ""), api.ErrNode},
		{single(2, 1, 0, ""), api.ErrNode},
		{single(4095, 1, 0, ""), api.ErrNode},
		{single(1, 6, 0, ""), api.ErrNode},
		{single(1, 4095, 0, ""), api.ErrNode},
		{several(0, "", 2), api.ErrNode},
		{several(1, "", 6), api.ErrNode},
		{several(1, "", 0, 2, 6), api.ErrNode},
		{several(1, "", 0, 6, 2), api.ErrNode},
		{several(1, "", 6, 0, 2), api.ErrNode},
		{several(1, "", 2), api.ErrConfig},
		{several(1, strings.Repeat("x", 64), 0, 2, 5), api.ErrConfig},
	} {
		n := New(c, 1)
		send(t, n, single(1, 1, 0, "a"))
		for range 2 {
			if e := n.Send(x.p); e != x.e {
				t.Errorf("parcel %d: error %d, not %d", i, e, x.e)
			}
			stands(t, n, 2, 1, 0, 0)
		}
		send(t, n, single(1, 1, 1, "b"))
		putsOut(t, n, 0, single(1, 1, 0, "a"))
		putsOut(t, n, 1, single(1, 1, 1, "b"))
		isEmpty(t, n)
	}
}

// P17.1: parcels at their bounds are sent.
func TestSendAtTheBounds(t *testing.T) {
	c := api.Config{W: 64, H: 64, Lanes: 2, Depth: 1, Ring: 1, Inbox: 1, Bound: 1, Cast: true}
	var all []int
	for node := range 4096 {
		all = append(all, node)
	}
	for _, p := range []cut.Parcel{
		single(4095, 0, 65535, strings.Repeat("x", 64)),
		single(4095, 4095, 0, ""),
		several(4095, "", 4095),
		several(4095, "", 0, 0),
		several(4095, strings.Repeat("x", 64), all...),
	} {
		n := New(c, 4095)
		send(t, n, p)
		l := 0
		if p.Cast {
			l = 1
		}
		putsOut(t, n, l, p)
		isEmpty(t, n)
	}
}

// R4: a parcel that was sent stays as it was, whatever becomes of its Heads.
func TestSentIsNotKept(t *testing.T) {
	n := New(mesh(2, 1, true), 0)
	p := several(0, "ab", 1, 2, 3)
	want := cut.Parcel{Cast: true, Heads: slices.Clone(p.Heads), Data: "ab"}
	send(t, n, p)
	if !cut.Same(p, want) {
		t.Errorf("it was changed to %v", p)
	}
	p.Heads[1].Node = 5
	clear(p.Heads)
	putsOut(t, n, 1, want)
}

// P17.1: how many words may stand there has no bound.
func TestManyWords(t *testing.T) {
	n := New(mesh(1, 1, false), 0)
	const many = 50000
	for i := range many {
		send(t, n, single(0, 1, i, "abcdefg"))
	}
	for i := range many {
		putsOut(t, n, 0, single(0, 1, i, "abcdefg"))
		send(t, n, single(0, 2, i, ""))
	}
	stands(t, n, 2*many, 2*many, 0, 0)
	for i := range many {
		putsOut(t, n, 0, single(0, 2, i, ""))
	}
	isEmpty(t, n)
}

// P17.1: of what is no port or no lane nothing is taken, whatever the word, and nothing is changed.
func TestTakeOfNoPortOrLane(t *testing.T) {
	w := words(t, single(0, 1, 0, "a"))
	for lanes := 1; lanes <= 8; lanes++ {
		n := New(mesh(lanes, 1, false), 1)
		take(t, n, api.South, lanes-1, w[0])
		for _, at := range [][2]int{
			{-1, 0}, {5, 0}, {math.MinInt, 0}, {math.MaxInt, 0}, {-1, lanes - 1}, {5, lanes - 1},
			{0, -1}, {0, lanes}, {4, -1}, {4, lanes}, {3, 8}, {4, 8}, {2, 9}, {1, math.MinInt}, {1, math.MaxInt}, {-1, -1}, {5, lanes},
		} {
			for _, word := range []uint64{w[0], w[1], 0} {
				if e := n.Take(at[0], at[1], word); e != api.ErrArg {
					t.Errorf("%d lanes: the port %d and lane %d: error %d", lanes, at[0], at[1], e)
				}
			}
			stands(t, n, 0, 0, 1, 0)
		}
		take(t, n, api.South, lanes-1, w[1])
		stands(t, n, 0, 0, 0, 1)
	}
}

// P17.1, P17.2: words come by each port and lane apart: by all at once, word by word, each packet is put together there, once.
func TestEachPortAndLaneApart(t *testing.T) {
	for lanes := 1; lanes <= 8; lanes++ {
		n := New(mesh(lanes, 64, false), 2)
		var want []api.Packet
		var cuts [][]uint64
		for i := range 5 * lanes {
			p := single(0, 2, i, "0123456789"+strconv.Itoa(100+i))
			cuts = append(cuts, words(t, p))
			want = append(want, cut.Packets(p)...)
		}
		for step := range 4 {
			for i, l := range cuts {
				take(t, n, i%5, i/5, l[step])
				begun := 5 * lanes
				switch step {
				case 0:
					begun = i + 1
				case 3:
					begun -= i + 1
				}
				if n.Begun() != begun {
					t.Fatalf("%d lanes, the word %d of the packet %d: %d have begun, not %d", lanes, step, i, n.Begun(), begun)
				}
			}
		}
		stands(t, n, 0, 0, 0, 5*lanes)
		if got := received(n); !slices.Equal(got, want) {
			t.Errorf("%d lanes: received %v", lanes, got)
		}
	}
}

// P17.1: layer 11's errors, and what comes of each: nothing, but of a Tail with too few or too many bytes, behind which nothing is begun.
func TestTakeOfWrongWords(t *testing.T) {
	w := words(t, single(0, 1, 0, "abcdefgh"))
	head, body, tail := w[0], w[1], w[2]
	form := bits.Seal(3 << 40)
	if _, e := flit.Read(form); e != api.ErrForm {
		t.Fatalf("the word is of an error %d", e)
	}
	n := New(mesh(2, 1, false), 1)
	wrong := func(word uint64, want api.Errno, begun int) {
		t.Helper()
		for range 2 {
			if e := n.Take(api.East, 1, word); e != want {
				t.Errorf("error %d, not %d", e, want)
			}
			stands(t, n, 0, 0, begun, 0)
			if begun == 0 {
				return
			}
		}
	}
	wrong(head^1, api.ErrSum, 0)
	wrong(form, api.ErrForm, 0)
	wrong(body, api.ErrState, 0)
	wrong(tail, api.ErrState, 0)
	take(t, n, api.East, 1, head)
	wrong(head, api.ErrState, 1)
	wrong(tail^1, api.ErrSum, 1)
	wrong(form, api.ErrForm, 1)
	take(t, n, api.East, 1, body)
	wrong(body, api.ErrSize, 1)
	wrong(words(t, single(0, 1, 0, "abc"))[1], api.ErrSize, 0)
	wrong(tail, api.ErrState, 0)
	take(t, n, api.East, 1, head)
	wrong(tail, api.ErrSize, 0)
	take(t, n, api.East, 1, w...)
	stands(t, n, 0, 0, 0, 1)
	if got := received(n); !slices.Equal(got, []api.Packet{{Src: 0, Dst: 1, Seq: 0, Data: "abcdefgh"}}) {
		t.Errorf("received %v", got)
	}
}

// P17.1: of a packet whose source and number wait already the last word is told ErrState; it is lost, the one that waits stays, and nothing is begun there any more.
func TestPacketThatWaitsAlready(t *testing.T) {
	n := New(mesh(2, 2, false), 1)
	take(t, n, api.West, 0, words(t, single(0, 1, 1, "first"))...)
	for i, at := range [][2]int{{api.West, 0}, {api.West, 1}, {api.Local, 0}} {
		again := words(t, single(0, 1, 1, "again "+strconv.Itoa(i)))
		take(t, n, at[0], at[1], again[:2]...)
		stands(t, n, 0, 0, 1, 1)
		if e := n.Take(at[0], at[1], again[2]); e != api.ErrState {
			t.Errorf("error %d", e)
		}
		stands(t, n, 0, 0, 0, 1)
		if e := n.Take(at[0], at[1], again[2]); e != api.ErrState {
			t.Errorf("of a Tail without a Head: error %d", e)
		}
	}
	take(t, n, api.West, 1, words(t, single(0, 1, 0, "ahead"))...)
	want := []api.Packet{{Src: 0, Dst: 1, Seq: 0, Data: "ahead"}, {Src: 0, Dst: 1, Seq: 1, Data: "first"}}
	if got := received(n); !slices.Equal(got, want) {
		t.Errorf("received %v", got)
	}
}

// P17.1: words come whoever they are for: which node a Head tells is the packet's alone, and whether it is one for several no matter.
func TestTakeOfAnyHead(t *testing.T) {
	n := New(mesh(2, 2, true), 1)
	more := words(t, several(5, "ab", 1, 2))
	take(t, n, api.North, 1, more[0], more[2])
	take(t, n, api.North, 0, words(t, single(4000, 3000, 0, ""))...)
	want := []api.Packet{{Src: 5, Dst: 1, Data: "ab"}, {Src: 4000, Dst: 3000}}
	if got := received(n); !slices.Equal(got, want) {
		t.Errorf("received %v", got)
	}
}

// P17.2: packets that come in any row are received in that of their numbers, each once.
func TestReceivedInTheirRow(t *testing.T) {
	d := draw(4)
	for range 50 {
		n := New(mesh(2, 3, false), 0)
		var parcels []cut.Parcel
		var want []api.Packet
		for src := range 4 {
			for seq := range 10 {
				p := single(src, 0, seq, strconv.Itoa(d.below(100000000)))
				parcels = append(parcels, p)
				want = append(want, cut.Packets(p)...)
			}
		}
		for i := range parcels {
			j := d.below(i + 1)
			parcels[i], parcels[j] = parcels[j], parcels[i]
		}
		var got []api.Packet
		for _, p := range parcels {
			take(t, n, d.below(5), d.below(2), words(t, p)...)
			n.Tell()
			if q, e := n.Recv(); e == api.OK {
				got = append(got, q)
			}
		}
		got = append(got, received(n)...)
		slices.SortStableFunc(got, func(p, q api.Packet) int { return p.Src - q.Src })
		if !slices.Equal(got, want) {
			t.Fatalf("received %v", got)
		}
		stands(t, n, 0, 0, 0, 0)
	}
}

// P17.2: what one nic puts in, the other one receives.
func TestFromNicToNic(t *testing.T) {
	c := mesh(3, 64, true)
	from, to := New(c, 0), New(c, 5)
	var want []api.Packet
	for seq := range 60 {
		p := single(0, 5, seq, strings.Repeat("z", seq))
		if seq%6 == 5 {
			p = cut.Parcel{Cast: true, Heads: p.Heads, Data: p.Data}
		}
		send(t, from, p)
		want = append(want, cut.Packets(p)...)
	}
	for {
		cell, e := from.Put()
		if e != api.OK {
			break
		}
		take(t, to, api.South, cell.Lane, cell.Word)
	}
	if got := received(to); !slices.Equal(got, want) {
		t.Errorf("received %v", got)
	}
	isEmpty(t, from)
}

func TestEachHasItsOwn(t *testing.T) {
	c := mesh(2, 2, false)
	a, b := New(c, 1), New(c, 1)
	send(t, a, single(1, 0, 0, "a"))
	w := words(t, single(0, 1, 0, "a"))
	take(t, a, api.East, 0, append(w, words(t, single(0, 1, 1, "a"))[0])...)
	a.Tell()
	stands(t, a, 2, 1, 1, 0)
	stands(t, b, 0, 0, 0, 0)
	isEmpty(t, b)
	if b.Take(api.East, 0, w[1]) != api.ErrState || b.Len() != 0 || b.Next(0) != 0 {
		t.Error("the other one has something of it")
	}
	send(t, b, single(1, 0, 0, "b"))
	putsOut(t, b, 0, single(1, 0, 0, "b"))
}

// P17.1, R7: of nil. T0: a Nic that New did not make answers likewise, and panics no more than another one.
func TestNilAndNotMadeByNew(t *testing.T) {
	w := words(t, single(0, 0, 0, "a"))
	for _, n := range []*Nic{nil, {}} {
		for range 2 {
			for _, p := range []cut.Parcel{{}, single(0, 0, 0, "a"), single(0, 0, 0, strings.Repeat("x", 65)), several(7, "", 9)} {
				if e := n.Send(p); e != api.ErrArg {
					t.Errorf("Send: error %d", e)
				}
			}
			for _, ask := range []func() (api.Cell, api.Errno){n.First, n.Put} {
				if cell, e := ask(); cell != (api.Cell{}) || e != api.ErrArg {
					t.Errorf("%v, error %d", cell, e)
				}
			}
			for _, word := range append(w, 0) {
				for port := -1; port <= 5; port++ {
					for l := -1; l <= 8; l++ {
						if e := n.Take(port, l, word); e != api.ErrArg {
							t.Errorf("Take: error %d", e)
						}
					}
				}
			}
			if p, e := n.Recv(); p != (api.Packet{}) || e != api.ErrArg {
				t.Errorf("Recv: %v, error %d", p, e)
			}
			stands(t, n, 0, 0, 0, 0)
			if n.Tell() || n.Ready() || n.Len() != 0 || n.Room() != 0 || n.Next(0) != 0 {
				t.Error("it has something")
			}
		}
	}
}
