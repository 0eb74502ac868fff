package router

import (
	"math"
	"slices"
	"testing"

	"reticule/api"
	"reticule/bits"
	"reticule/cut"
	"reticule/flit"
	"reticule/grid"
	"reticule/join"
	"reticule/lane"
	"reticule/snake"
	"reticule/turn"
)

// draw makes numbers in a row that is always the same.
type draw uint64

func (d *draw) below(n int) int {
	*d = *d*6364136223846793005 + 1442695040888963407
	return int(uint64(*d) >> 33 % uint64(n))
}

func written(f api.Flit) uint64 {
	word, e := flit.Write(f)
	if e != api.OK {
		panic("no flit")
	}
	return word
}

// head tells the word of a Head for a node.
func head(to int) uint64 {
	return written(api.Flit{Kind: api.Head, Src: 1, Dst: to, Seq: 9, Len: 8})
}

// castHead tells the word of a Head of a packet for several.
func castHead(to int, more bool) uint64 {
	return written(api.Flit{Kind: api.Head, Src: 1, Dst: to, Seq: 9, Len: 8, More: more, Cast: true})
}

func body() uint64 {
	return written(api.Flit{Kind: api.Body, Data: "abcdef"})
}

func tail() uint64 {
	return written(api.Flit{Kind: api.Tail, Data: "gh"})
}

func wrongSum(word uint64) uint64 {
	return word ^ 1<<55
}

// numbered tells a word that is no flit's, no Head and no Tail, and is unlike the others.
func numbered(n int) uint64 {
	return uint64(n) << 2
}

// middle is a config whose node 4 has others on all sides, and the config's lanes.
func middle(lanes int, cast bool) api.Config {
	return api.Config{W: 3, H: 3, Lanes: lanes, Depth: 4, Ring: 1, Inbox: 1, Bound: 1, West: true, Cast: cast}
}

func yes(int) bool { return true }

func no(int) bool { return false }

// buffer is what the document says a lane is, by which words come in.
type buffer struct {
	words             []uint64
	phase, port, lane int
	copies            bool
}

// plain is what the document says a router is, told on lists.
type plain struct {
	c     api.Config
	node  int
	in    [5][]buffer
	had   map[[2]int][2]int // who has a lane of a port
	gave  [5]int            // who had its turn last, of each port; -1: none
	moved [5]int
}

func newPlain(c api.Config, node int) *plain {
	m := &plain{c: c, node: node, had: map[[2]int][2]int{}, gave: [5]int{-1, -1, -1, -1, -1}, moved: [5]int{-1, -1, -1, -1, -1}}
	for port := range m.in {
		m.in[port] = make([]buffer, c.Lanes)
	}
	return m
}

func (m *plain) at(port, l int) *buffer {
	if port < 0 || port > 4 || l < 0 || l >= m.c.Lanes {
		return nil
	}
	return &m.in[port][l]
}

func (m *plain) put(port, l int, word uint64) api.Errno {
	b := m.at(port, l)
	if b == nil {
		return api.ErrArg
	}
	if len(b.words) == m.c.Depth {
		return api.ErrFull
	}
	b.words = append(b.words, word)
	return api.OK
}

func (m *plain) find(port, l, choice int) bool {
	b := m.at(port, l)
	if b == nil || b.phase != 0 || len(b.words) == 0 {
		return false
	}
	f, e := flit.Read(b.words[0])
	if e != api.OK || f.Kind != api.Head {
		return false
	}
	if f.Dst == m.node {
		b.phase, b.port, b.lane = 2, 0, 0
		return true
	}
	way, ok := turn.Choose(m.c, m.node, f.Dst, choice)
	if f.Cast {
		way, ok = snake.Step(m.c, m.node, f.Dst)
	}
	if ok {
		b.phase, b.port = 1, way
	}
	return ok
}

// round tells the places from behind the last one on, round.
func round(last, places int) []int {
	var l []int
	for i := range places {
		l = append(l, (last+1+i)%places)
	}
	return l
}

func (m *plain) isLast(l int) bool {
	return m.c.Cast && l == m.c.Lanes-1
}

func (m *plain) give(port, l int) bool {
	b := m.at(port, l)
	if b == nil || b.phase != 1 {
		return false
	}
	for _, to := range round(m.gave[b.port], m.c.Lanes) {
		if _, is := m.had[[2]int{b.port, to}]; is || m.isLast(to) != m.isLast(l) {
			continue
		}
		m.had[[2]int{b.port, to}] = [2]int{port, l}
		m.gave[b.port] = to
		b.phase, b.lane = 2, to
		return true
	}
	return false
}

// move tells what is moved, and of which lanes it is asked whether they may be sent on.
func (m *plain) move(port int, may func(int) bool) (Moved, bool, []int) {
	if port < 0 || port > 4 {
		return Moved{}, false, nil
	}
	var asked []int
	for _, place := range round(m.moved[port], 5*m.c.Lanes) {
		from, l := place/m.c.Lanes, place%m.c.Lanes
		b := m.at(from, l)
		if b.phase != 2 || b.port != port || len(b.words) == 0 {
			continue
		}
		if port != 0 {
			asked = append(asked, b.lane)
			if !may(b.lane) {
				continue
			}
		}
		m.moved[port] = place
		return Moved{Out: m.take(b), From: from, FromLane: l}, true, asked
	}
	return Moved{}, false, asked
}

func (m *plain) take(b *buffer) lane.Out {
	word := b.words[0]
	b.words = b.words[1:]
	isHead, isTail := word%4 == 1, word%4 == 3
	out := lane.Out{Port: b.port, Lane: b.lane, Word: word, Copy: b.port != 0 && b.copies && !isHead, Ends: isTail}
	if f, e := flit.Read(word); b.port == 0 && isHead && e == api.OK && f.More {
		b.phase, b.copies = 0, true
	}
	if isTail {
		delete(m.had, [2]int{b.port, b.lane})
		b.phase, b.copies = 0, false
	}
	return out
}

func (m *plain) idle() bool {
	for port := range m.in {
		for _, b := range m.in[port] {
			if len(b.words) > 0 || b.phase != 0 {
				return false
			}
		}
	}
	return true
}

// call is one that a router and the plain one are asked: 'p' Put, 'f' Find, 'g' Give, 'm' Move. Number is Put's word, Find's choice, or Move's lanes that may be sent on, a bit each.
type call struct {
	name    byte
	port, l int
	number  int
}

// pair is a router and the plain one, which are asked the same; a fault is told with the calls that led to it.
type pair struct {
	t     *testing.T
	r     *Router
	m     *plain
	words []uint64
	asked []call
}

func newPair(t *testing.T, c api.Config, node int, words ...uint64) *pair {
	p := &pair{t: t, r: New(c, node), m: newPlain(c, node), words: words}
	if p.r == nil {
		t.Fatalf("no router of %v, node %d", c, node)
	}
	return p
}

func (p *pair) ask(c call) bool {
	p.t.Helper()
	p.asked = append(p.asked, c)
	done := false
	switch c.name {
	case 'p':
		e, want := p.r.Put(c.port, c.l, p.words[c.number]), p.m.put(c.port, c.l, p.words[c.number])
		if e != want {
			p.fault("Put", e, want)
		}
		done = e == api.OK
	case 'f':
		done = p.r.Find(c.port, c.l, c.number)
		if want := p.m.find(c.port, c.l, c.number); done != want {
			p.fault("Find", done, want)
		}
	case 'g':
		done = p.r.Give(c.port, c.l)
		if want := p.m.give(c.port, c.l); done != want {
			p.fault("Give", done, want)
		}
	case 'm':
		done = p.move(c)
	}
	p.same()
	return done
}

func (p *pair) move(c call) bool {
	p.t.Helper()
	var asked []int
	gate := func(l int) bool { return c.number>>l&1 == 1 }
	got, is := p.r.Move(c.port, func(l int) bool {
		asked = append(asked, l)
		return gate(l)
	})
	want, wantIs, wantAsked := p.m.move(c.port, gate)
	if got != want || is != wantIs || !slices.Equal(asked, wantAsked) {
		p.fault("Move", []any{got, is, asked}, []any{want, wantIs, wantAsked})
	}
	return is
}

// same holds all that can be told of the router against the plain one, edges and what is beyond them among it.
func (p *pair) same() {
	p.t.Helper()
	for port := -1; port <= 5; port++ {
		for l := -1; l <= p.m.c.Lanes; l++ {
			var want [3]int
			if b := p.m.at(port, l); b != nil {
				want = [3]int{len(b.words), p.m.c.Depth - len(b.words), b.phase}
			}
			if got := [3]int{p.r.Len(port, l), p.r.Room(port, l), p.r.Phase(port, l)}; got != want {
				p.fault("Len, Room, Phase", got, want)
			}
			wantWho, wantIs := p.m.had[[2]int{port, l}]
			if from, fromLane, is := p.r.Owner(port, l); [2]int{from, fromLane} != wantWho || is != wantIs {
				p.fault("Owner", []any{from, fromLane, is}, []any{wantWho, wantIs})
			}
		}
	}
	if got, want := p.r.Idle(), p.m.idle(); got != want {
		p.fault("Idle", got, want)
	}
}

func (p *pair) fault(what string, got, want any) {
	p.t.Helper()
	led := ""
	last := p.asked[max(0, len(p.asked)-16):]
	for _, c := range last {
		led += " " + string(rune(c.name))
	}
	p.t.Fatalf("%v, node %d, behind the calls%s: %s: %v, want %v (%v)", p.m.c, p.m.node, led, what, got, want, last)
}

// begun puts words into a lane, finds its way and gives it a lane, which must be.
func begun(t *testing.T, r *Router, port, l int, words ...uint64) {
	t.Helper()
	for i, word := range words {
		if e := r.Put(port, l, word); e != api.OK {
			t.Fatalf("Put of the word %d by the port %d, lane %d: error %d", i, port, l, e)
		}
	}
	if !r.Find(port, l, 0) || !r.Give(port, l) {
		t.Fatalf("port %d, lane %d: phase %d", port, l, r.Phase(port, l))
	}
}

func owns(t *testing.T, r *Router, port, l, from, fromLane int, is bool) {
	t.Helper()
	if a, b, had := r.Owner(port, l); a != from || b != fromLane || had != is {
		t.Errorf("Owner of the port %d, lane %d: %d, %d, %v, want %d, %d, %v", port, l, a, b, had, from, fromLane, is)
	}
}

// P15.1: the example of the chapter.
func TestExample(t *testing.T) {
	r := New(middle(1, false), 4)
	begun(t, r, api.West, 0, head(5), tail())
	owns(t, r, api.East, 0, api.West, 0, true)
	for i, word := range []uint64{head(5), tail()} {
		want := Moved{Out: lane.Out{Port: api.East, Word: word, Ends: i == 1}, From: api.West}
		if got, is := r.Move(api.East, yes); got != want || !is {
			t.Errorf("word %d: %v, %v", i, got, is)
		}
	}
	owns(t, r, api.East, 0, 0, 0, false)
	if !r.Idle() {
		t.Error("not idle")
	}
	if got, is := r.Move(api.East, yes); got != (Moved{}) || is {
		t.Errorf("then: %v, %v", got, is)
	}
}

// P15.1: all rows of calls, of two lanes by which words come in that want the same port, and of the node itself.
func TestEveryRowOfCalls(t *testing.T) {
	c := middle(1, false)
	c.Depth = 2
	calls := []call{
		{'p', 1, 0, 0}, {'p', 1, 0, 1}, {'p', 3, 0, 0}, {'p', 3, 0, 2},
		{'f', 1, 0, 0}, {'f', 3, 0, 0}, {'g', 1, 0, 0}, {'g', 3, 0, 0},
		{'m', 2, 0, 1}, {'m', 2, 0, 0}, {'m', 0, 0, 0},
	}
	everyRow(t, c, calls, nil, head(3), tail(), head(4))
}

// P15.1: all rows of calls, behind some by which two lanes found the same port: of two lanes there, of one class or of two.
func TestEveryRowOfCallsBehindSome(t *testing.T) {
	for _, cast := range []bool{false, true} {
		c := middle(2, cast)
		c.Depth = 2
		first := []call{
			{'p', 0, 0, 0}, {'p', 0, 0, 1}, {'p', 2, 1, 0}, {'p', 2, 1, 1}, {'p', 2, 0, 0}, {'f', 0, 0, 0}, {'f', 2, 1, 1}, {'f', 2, 0, 0},
		}
		calls := []call{
			{'g', 0, 0, 0}, {'g', 2, 1, 0}, {'g', 2, 0, 0}, {'m', 1, 0, 1}, {'m', 1, 0, 2}, {'m', 1, 0, 3}, {'p', 2, 0, 1}, {'f', 2, 0, 0},
		}
		everyRow(t, c, calls, first, head(5), tail())
	}
}

func everyRow(t *testing.T, c api.Config, calls, first []call, words ...uint64) {
	t.Helper()
	const long = 5
	rows := 1
	for range long {
		rows *= len(calls)
	}
	for row := range rows {
		p := newPair(t, c, 4, words...)
		for _, a := range first {
			p.ask(a)
		}
		for range long {
			p.ask(calls[row%len(calls)])
			row /= len(calls)
		}
	}
}

// samples are words of each sort that a router tells apart, for all nodes of a config.
func samples(c api.Config) []uint64 {
	words := []uint64{body(), body(), tail(), tail(), tail(), wrongSum(tail()), wrongSum(head(0)), numbered(7), 1, 3, math.MaxUint64, head(4095), castHead(4095, true)}
	for node := range c.W * c.H {
		words = append(words, head(node), castHead(node, true), castHead(node, false))
	}
	return words
}

func configs() []api.Config {
	return []api.Config{
		{W: 1, H: 1, Lanes: 1, Depth: 1, Ring: 1, Inbox: 1, Bound: 1},
		{W: 1, H: 1, Lanes: 2, Depth: 2, Ring: 1, Inbox: 1, Bound: 1, Cast: true},
		{W: 2, H: 1, Lanes: 1, Depth: 2, Ring: 1, Inbox: 1, Bound: 1, West: true},
		{W: 3, H: 3, Lanes: 1, Depth: 1, Ring: 1, Inbox: 1, Bound: 1},
		{W: 3, H: 3, Lanes: 2, Depth: 2, Ring: 1, Inbox: 1, Bound: 1, Cast: true},
		{W: 3, H: 3, Lanes: 3, Depth: 3, Ring: 1, Inbox: 1, Bound: 1, West: true, Cast: true},
		{W: 3, H: 3, Lanes: 3, Depth: 2, Ring: 1, Inbox: 1, Bound: 1, West: true},
		{W: 2, H: 4, Lanes: 8, Depth: 64, Ring: 64, Inbox: 64, Bound: 16, West: true, Cast: true},
		{W: 4, H: 4, Lanes: 8, Depth: 2, Ring: 1, Inbox: 1, Bound: 1},
	}
}

// P15.1: long rows of calls, of any config, at any node, of words of each sort; ports, lanes and choices that aren't there among them.
func TestLongRowsOfCalls(t *testing.T) {
	d := draw(15)
	for _, c := range configs() {
		words := samples(c)
		for node := range c.W * c.H {
			for range 3 {
				p := newPair(t, c, node, words...)
				puts := 1 + d.below(4)
				for range 600 {
					at := call{port: d.below(5), l: d.below(c.Lanes)}
					if d.below(20) == 0 {
						at.port, at.l = d.below(9)-2, d.below(c.Lanes+4)-2
					}
					switch n := d.below(puts + 6); {
					case n < puts:
						at.name, at.number = 'p', d.below(len(words))
					case n < puts+2:
						at.name, at.number = 'f', d.below(7)-3
					case n < puts+4:
						at.name = 'g'
					default:
						at.name, at.number = 'm', d.below(256)|d.below(256)
					}
					p.ask(at)
				}
			}
		}
	}
}

// P15.1: of what may not be, and of what is no node, there is no router; of each node there is one.
func TestNew(t *testing.T) {
	c := middle(2, true)
	for _, node := range []int{math.MinInt, -1, 9, 10, math.MaxInt} {
		if New(c, node) != nil {
			t.Errorf("a router of the node %d", node)
		}
	}
	for node := range 9 {
		if r := New(c, node); r == nil || !r.Idle() {
			t.Errorf("no router of the node %d", node)
		}
	}
	for i, turned := range []func(c *api.Config){
		func(c *api.Config) { c.W = 0 }, func(c *api.Config) { c.H = 65 }, func(c *api.Config) { c.Lanes = 0 }, func(c *api.Config) { c.Lanes = 1 },
		func(c *api.Config) { c.Lanes = 9 }, func(c *api.Config) { c.Depth = 0 }, func(c *api.Config) { c.Depth = 65 }, func(c *api.Config) { c.Ring = 0 },
		func(c *api.Config) { c.Inbox = 65 }, func(c *api.Config) { c.Bound = 17 }, func(c *api.Config) { c.W = math.MaxInt }, func(c *api.Config) { *c = api.Config{} },
	} {
		wrong := c
		turned(&wrong)
		if New(wrong, 0) != nil {
			t.Errorf("config %d: a router", i)
		}
	}
	most := api.Config{W: 64, H: 64, Lanes: 8, Depth: 64, Ring: 64, Inbox: 64, Bound: 16, West: true, Cast: true}
	if r := New(most, 4095); r == nil || r.Room(api.South, 7) != 64 || r.Room(api.South, 8) != 0 {
		t.Error("the greatest config")
	}
}

// P15.1: at first each port, those that lead nowhere too, has its lanes, with their room, and nobody has any.
func TestAtFirst(t *testing.T) {
	for _, c := range configs() {
		r := New(c, 0)
		for port := range 5 {
			for l := range c.Lanes {
				if r.Len(port, l) != 0 || r.Room(port, l) != c.Depth || r.Phase(port, l) != 0 {
					t.Errorf("%v, port %d, lane %d: %d, %d, %d", c, port, l, r.Len(port, l), r.Room(port, l), r.Phase(port, l))
				}
				owns(t, r, port, l, 0, 0, false)
			}
			if got, is := r.Move(port, yes); got != (Moved{}) || is {
				t.Errorf("%v, port %d: moved %v", c, port, got)
			}
		}
		if !r.Idle() {
			t.Errorf("%v: not idle", c)
		}
	}
}

// P15.1: where no such port or lane is, nothing is done; ErrArg is told ahead of ErrFull.
func TestNoSuchPortOrLane(t *testing.T) {
	r := New(middle(2, false), 4)
	begun(t, r, 0, 0, head(5), numbered(1), numbered(2), numbered(3))
	for _, x := range [][2]int{
		{-1, 0}, {5, 0}, {0, -1}, {0, 2}, {4, 2}, {math.MinInt, 0}, {math.MaxInt, 0}, {0, math.MinInt}, {0, math.MaxInt}, {-1, -1}, {5, 2}, {-1, 2}, {1 << 32, 1 << 32},
	} {
		port, l := x[0], x[1]
		if e := r.Put(port, l, head(4)); e != api.ErrArg {
			t.Errorf("%v: Put: error %d", x, e)
		}
		if r.Find(port, l, 0) || r.Give(port, l) || r.Len(port, l) != 0 || r.Room(port, l) != 0 || r.Phase(port, l) != 0 {
			t.Errorf("%v is there", x)
		}
		owns(t, r, port, l, 0, 0, false)
	}
	for _, port := range []int{-1, 5, 6, math.MinInt, math.MaxInt, 1<<32 + 1} {
		if got, is := r.Move(port, func(int) bool { t.Error("asked"); return true }); got != (Moved{}) || is {
			t.Errorf("port %d: moved %v", port, got)
		}
	}
	if e := r.Put(0, 0, 0); e != api.ErrFull || r.Len(0, 0) != 4 {
		t.Errorf("full: error %d", e)
	}
	if e := r.Put(0, 1, 0); e != api.OK || r.Len(0, 1) != 1 || r.Room(0, 1) != 3 {
		t.Errorf("the lane beside: error %d", e)
	}
}

// P15.1: a Head that isn't Cast goes as layer 6 chooses, whatever the choice; for the node itself it is given Local at once.
func TestFindByChoice(t *testing.T) {
	for _, west := range []bool{false, true} {
		c := api.Config{W: 4, H: 4, Lanes: 2, Depth: 1, Ring: 1, Inbox: 1, Bound: 1, West: west, Cast: true}
		for at := range 16 {
			for to := range 16 {
				for _, choice := range []int{0, 1, 2, 3, -1, -2, -3, math.MinInt, math.MaxInt} {
					want, _ := turn.Choose(c, at, to, choice)
					for l := range 2 { // the class of a lane turns nothing at the way
						wayIs(t, c, at, l, choice, head(to), want)
					}
				}
			}
		}
	}
}

// P15.1: a Head that is Cast goes along the line of layer 8, whatever the choice, without a class for it too.
func TestFindAlongTheLine(t *testing.T) {
	for _, cast := range []bool{false, true} {
		c := api.Config{W: 4, H: 4, Lanes: 2, Depth: 1, Ring: 1, Inbox: 1, Bound: 1, West: true, Cast: cast}
		for at := range 16 {
			for to := range 16 {
				for _, choice := range []int{0, 1, -1} {
					want, _ := snake.Step(c, at, to)
					wayIs(t, c, at, 1, choice, castHead(to, to%2 == 0), want)
				}
			}
		}
	}
}

// wayIs holds the port that a Head finds against the one it must: by the lane that it is given there.
func wayIs(t *testing.T, c api.Config, at, l, choice int, word uint64, want int) {
	t.Helper()
	r := New(c, at)
	r.Put(api.Local, l, word)
	if !r.Find(api.Local, l, choice) || r.Find(api.Local, l, choice) {
		t.Fatalf("%v, node %d, word %x: phase %d", c, at, word, r.Phase(api.Local, l))
	}
	phase := 1
	if want == api.Local {
		phase = 2
	}
	if r.Phase(api.Local, l) != phase || r.Give(api.Local, l) != (phase == 1) {
		t.Fatalf("%v, node %d, word %x: phase %d, want %d", c, at, word, r.Phase(api.Local, l), phase)
	}
	for port := range 5 {
		if got, is := r.Move(port, yes); is != (port == want) || is && (got.Word != word || got.Port != want) {
			t.Fatalf("%v, node %d, word %x, choice %d: port %d: %v, %v, want %d", c, at, word, choice, port, got, is, want)
		}
	}
}

// P15.1: a word that is no Head, or one for no node, finds no way, and stays.
func TestFindNoWay(t *testing.T) {
	c := middle(2, true)
	for i, word := range []uint64{body(), tail(), wrongSum(head(4)), wrongSum(head(5)), head(9), head(4095), castHead(9, false), castHead(4095, true), 0, 1, 3, math.MaxUint64} {
		r := New(c, 4)
		r.Put(3, 1, word)
		r.Put(3, 1, head(4))
		if r.Find(3, 1, 0) || r.Give(3, 1) || r.Phase(3, 1) != 0 || r.Len(3, 1) != 2 || r.Idle() {
			t.Errorf("word %d: phase %d", i, r.Phase(3, 1))
		}
	}
	if r := New(c, 4); r.Find(3, 1, 0) || r.Give(3, 1) {
		t.Error("without a word")
	}
}

// P15.1: a lane is given of the class that the lane's own number is of, whatever the Head is.
func TestGiveOfItsClass(t *testing.T) {
	c := middle(3, true)
	r := New(c, 4)
	for port := range 4 { // the last lane there is given to none of the first class, of which two find one each
		r.Put(port, 0, head(5))
		r.Put(port, 1, head(5))
		r.Find(port, 0, 0)
		r.Find(port, 1, 0)
	}
	if !r.Give(0, 0) || !r.Give(0, 1) || r.Give(1, 0) || r.Give(3, 1) {
		t.Error("of the first class")
	}
	owns(t, r, api.East, 2, 0, 0, false)
	r.Put(2, 2, head(5)) // not Cast, but on the lane for those
	r.Put(3, 2, castHead(5, false))
	if !r.Find(2, 2, 0) || !r.Find(3, 2, 0) || !r.Give(2, 2) || r.Give(3, 2) {
		t.Error("of the class for several")
	}
	owns(t, r, api.East, 2, 2, 2, true)
	other := New(c, 4) // Cast, but on a lane that isn't for those
	begun(t, other, 1, 0, castHead(5, false))
	owns(t, other, api.East, 0, 1, 0, true)
	single := New(middle(3, false), 4) // one class alone: all lanes may be given to each
	for port := range 3 {
		begun(t, single, port, 2, head(5))
		owns(t, single, api.East, port, port, 2, true)
	}
}

// P15.1, P15.2: lanes are given in turn: the one behind that which was given last, round, but those that are had.
func TestGiveInTurn(t *testing.T) {
	r := New(middle(3, false), 4)
	for i := range 7 { // each lane that was given is free again by the next time
		begun(t, r, 0, 0, head(5), tail())
		owns(t, r, api.East, i%3, 0, 0, true)
		r.Move(api.East, yes)
		r.Move(api.East, yes)
	}
	begun(t, r, 0, 1, head(5)) // has the lane 1; the turn is 2's, then 0's, then 2's again
	for i, want := range []int{2, 0, 2, 0} {
		begun(t, r, 0, 0, head(5), tail())
		owns(t, r, api.East, want, 0, 0, true)
		owns(t, r, api.East, 1, 0, 1, true)
		for range 4 {
			r.Move(api.East, func(l int) bool { return l != 1 })
		}
		if r.Phase(0, 0) != 0 {
			t.Errorf("%d: phase %d", i, r.Phase(0, 0))
		}
	}
	begun(t, r, 0, 2, head(7)) // another port has another turn
	owns(t, r, api.North, 0, 0, 2, true)
}

// P15.1, P15.2, R3: what isn't given, as all that may be are had, waits in its phase, and takes no turn; a lane that is free again is given.
func TestGiveWaits(t *testing.T) {
	r := New(middle(2, false), 4)
	begun(t, r, 0, 0, head(5), tail())
	begun(t, r, 0, 1, head(5), tail())
	r.Put(2, 0, head(5))
	r.Find(2, 0, 0)
	for range 3 {
		if r.Give(2, 0) || r.Phase(2, 0) != 1 {
			t.Error("given what is had")
		}
	}
	r.Move(api.East, func(l int) bool { return l == 1 })
	if r.Give(2, 0) {
		t.Error("given ahead of the Tail")
	}
	r.Move(api.East, func(l int) bool { return l == 1 })
	owns(t, r, api.East, 1, 0, 0, false)
	if !r.Give(2, 0) || r.Give(2, 0) {
		t.Error("not given what is free")
	}
	owns(t, r, api.East, 1, 2, 0, true)
	owns(t, r, api.East, 0, 0, 0, true)
}

// P15.1: the gate is asked of the given lane of each that has a word that goes by that port, in their row, up to the first one that may; of Local it isn't asked.
func TestMoveAsksTheGate(t *testing.T) {
	r := New(middle(4, false), 4)
	begun(t, r, 3, 1, head(5)) // the lane 0 there
	begun(t, r, 0, 2, head(5)) // the lane 1
	begun(t, r, 2, 0, head(5)) // the lane 2
	begun(t, r, 2, 1, head(7)) // by another port
	begun(t, r, 4, 3, head(5)) // the lane 3, but soon without a word
	r.Put(1, 0, head(5))
	r.Find(1, 0, 0) // found, but not given
	r.Move(api.East, func(l int) bool { return l == 3 })
	var asked []int
	gate := func(open int) func(int) bool {
		asked = nil
		return func(l int) bool {
			asked = append(asked, l)
			return l == open
		}
	}
	if got, is := r.Move(api.East, gate(9)); is || got != (Moved{}) || !slices.Equal(asked, []int{1, 2, 0}) {
		t.Errorf("none may: %v, %v, asked of %v", got, is, asked)
	}
	if got, is := r.Move(api.East, gate(2)); !is || got.From != 2 || got.FromLane != 0 || got.Lane != 2 || !slices.Equal(asked, []int{1, 2}) {
		t.Errorf("one may: %v, %v, asked of %v", got, is, asked)
	}
	if got, is := r.Move(api.East, gate(1)); !is || got.From != 0 || got.FromLane != 2 || got.Lane != 1 || !slices.Equal(asked, []int{0, 1}) {
		t.Errorf("behind it: %v, %v, asked of %v", got, is, asked)
	}
	r.Put(1, 3, head(4))
	r.Find(1, 3, 0)
	for _, may := range []func(int) bool{nil, no, func(int) bool { t.Error("asked of Local"); return false }} {
		r.Put(1, 3, numbered(4))
		if _, is := r.Move(api.Local, may); !is {
			t.Error("not moved to Local")
		}
	}
}

// P15.1, T0, R3: a gate that is nil, or panics, lets nothing through, and takes no turn; one that panics of one lane lets others through.
func TestGateNilOrPanics(t *testing.T) {
	r := New(middle(2, false), 4)
	begun(t, r, 0, 0, head(5), tail())
	begun(t, r, 3, 0, head(5), tail())
	var none []bool
	for i, may := range []func(int) bool{nil, func(int) bool { panic("no gate") }, func(int) bool { panic(nil) }, func(l int) bool { return none[l] }} {
		if got, is := r.Move(api.East, may); is || got != (Moved{}) || r.Len(0, 0) != 2 || r.Len(3, 0) != 2 {
			t.Errorf("gate %d: %v, %v", i, got, is)
		}
	}
	some := func(l int) bool {
		if l == 0 {
			panic("not this one")
		}
		return true
	}
	if got, is := r.Move(api.East, some); !is || got.From != 3 || got.Word != head(5) {
		t.Errorf("%v, %v", got, is)
	}
	if got, is := r.Move(api.East, yes); !is || got.From != 0 || got.Word != head(5) {
		t.Errorf("then: %v, %v", got, is)
	}
}

// P15.1, T0: a gate that moves the word itself for which it is asked: no call panics, no word is moved twice or lost.
func TestGateThatMoves(t *testing.T) {
	for _, words := range [][]uint64{{head(5)}, {head(5), tail()}, {head(5), body(), tail()}} {
		r := New(middle(2, false), 4)
		begun(t, r, 0, 0, words...)
		begun(t, r, 2, 1, words...)
		var got [5][]uint64
		note := func(m Moved, is bool) {
			if is {
				got[m.From] = append(got[m.From], m.Word)
			}
		}
		for range 8 {
			note(r.Move(api.East, func(int) bool {
				note(r.Move(api.East, yes))
				return true
			}))
		}
		// What the gate moves goes ahead of what its call moves; each is noted as it ends.
		if !slices.Equal(got[0], words) || !slices.Equal(got[2], words) {
			t.Errorf("%x: moved %x", words, got)
		}
	}
}

// P15.1, P15.2: words are moved in turn: of all that wait for a port one each, from the port 0 and the lane 0 on, round.
func TestMoveInTurn(t *testing.T) {
	for _, to := range []int{5, 4} { // by East, and to Local
		c := middle(5, false)
		r := New(c, 4)
		port := 0
		var want []Moved
		in := [][2]int{{0, 0}, {0, 4}, {2, 3}, {3, 0}, {4, 4}}
		if to == 5 {
			port = api.East
		}
		for i, x := range in {
			r.Put(x[0], x[1], head(to))
			r.Put(x[0], x[1], numbered(i))
			r.Put(x[0], x[1], tail())
			r.Find(x[0], x[1], 0)
			r.Give(x[0], x[1])
		}
		for n := range 3 {
			for i, x := range in {
				m := Moved{Out: lane.Out{Port: port, Word: []uint64{head(to), numbered(i), tail()}[n], Ends: n == 2}, From: x[0], FromLane: x[1]}
				if to == 5 {
					m.Lane = i
				}
				want = append(want, m)
			}
		}
		for i, m := range want {
			if got, is := r.Move(port, yes); got != m || !is {
				t.Errorf("to %d, word %d: %v, %v, want %v", to, i, got, is, m)
			}
		}
		if !r.Idle() {
			t.Errorf("to %d: not idle", to)
		}
	}
}

// P15.2: who waits for a port has its turn behind no more moves than there are lanes, though the others have words all the while.
func TestWhatWaitsHasItsTurn(t *testing.T) {
	c := middle(8, false)
	for waiter := range 8 {
		r := New(c, 4)
		for l := range 8 {
			begun(t, r, l%5, l, head(5), body())
		}
		d := draw(waiter)
		for range 50 {
			turns := 0
			for range 8 {
				got, is := r.Move(api.East, yes)
				if !is {
					t.Fatal("it stands still")
				}
				r.Put(got.From, got.FromLane, numbered(d.below(99)))
				if got.FromLane == waiter {
					turns++
				}
			}
			if turns != 1 {
				t.Fatalf("lane %d: %d turns in 8 moves", waiter, turns)
			}
		}
	}
}

// P15.1: a move by one port turns nothing at another one's turn.
func TestEachPortHasItsTurn(t *testing.T) {
	r := New(middle(2, false), 4)
	begun(t, r, 0, 0, head(5), body(), tail())
	begun(t, r, 0, 1, head(5), body(), tail())
	begun(t, r, 3, 0, head(7), body(), tail())
	begun(t, r, 3, 1, head(7), body(), tail())
	for i := range 6 {
		east, _ := r.Move(api.East, yes)
		north, _ := r.Move(api.North, yes)
		if east.From != 0 || north.From != 3 || east.FromLane != i%2 || north.FromLane != i%2 {
			t.Errorf("%d: %v, %v", i, east, north)
		}
	}
}

// P15.1: of a Head for the node itself that another one follows, the node is told; the next one finds its way anew, and what is no Head goes to the node, too.
func TestSeveral(t *testing.T) {
	r := New(api.Config{W: 3, H: 3, Lanes: 2, Depth: 8, Ring: 1, Inbox: 1, Bound: 1, Cast: true}, 4)
	for _, word := range []uint64{castHead(4, true), castHead(3, true), castHead(6, false), body(), tail()} {
		r.Put(api.South, 1, word)
	}
	if !r.Find(api.South, 1, 0) || r.Phase(api.South, 1) != 2 || r.Give(api.South, 1) {
		t.Error("the node's own")
	}
	want := Moved{Out: lane.Out{Word: castHead(4, true)}, From: api.South, FromLane: 1}
	if got, is := r.Move(api.Local, nil); got != want || !is || r.Phase(api.South, 1) != 0 {
		t.Errorf("%v, %v", got, is)
	}
	if _, is := r.Move(api.West, yes); is || !r.Find(api.South, 1, 0) || !r.Give(api.South, 1) {
		t.Error("the next one")
	}
	owns(t, r, api.West, 1, api.South, 1, true)
	for i, word := range []uint64{castHead(3, true), castHead(6, false), body(), tail()} {
		want := Moved{Out: lane.Out{Port: api.West, Lane: 1, Word: word, Copy: i > 1, Ends: i == 3}, From: api.South, FromLane: 1}
		if got, is := r.Move(api.West, yes); got != want || !is {
			t.Errorf("word %d: %v, %v", i, got, is)
		}
	}
	owns(t, r, api.West, 1, 0, 0, false)
	if !r.Idle() {
		t.Error("not idle")
	}
}

// P15.1: a Tail to Local frees no lane that another one has.
func TestTailToLocalFreesNothing(t *testing.T) {
	r := New(middle(1, false), 4)
	begun(t, r, 1, 0, head(3))
	begun(t, r, 2, 0, head(5))
	r.Put(3, 0, head(4))
	r.Put(3, 0, tail())
	r.Find(3, 0, 0)
	for range 2 {
		if _, is := r.Move(api.Local, no); !is {
			t.Error("not moved")
		}
	}
	owns(t, r, api.West, 0, 1, 0, true)
	owns(t, r, api.East, 0, 2, 0, true)
	owns(t, r, api.Local, 0, 0, 0, false)
}

// P15.1: idle is a router without words all whose lanes are in phase 0.
func TestIdle(t *testing.T) {
	r := New(middle(2, false), 4)
	r.Put(4, 1, head(5))
	if r.Idle() {
		t.Error("idle with a word")
	}
	r.Find(4, 1, 0)
	r.Give(4, 1)
	if _, is := r.Move(api.East, yes); !is || r.Len(4, 1) != 0 || r.Idle() {
		t.Error("idle in phase 2")
	}
	r.Put(4, 1, tail())
	if r.Idle() {
		t.Error("idle with a Tail")
	}
	if _, is := r.Move(api.East, yes); !is || !r.Idle() {
		t.Error("not idle")
	}
}

// P15.2: behind any calls, a lane of a port is had by just one lane, in phase 2, and each lane has one at most; words of a lane go out in their row, by the lane that it has.
func TestHadByOneAndInTheirRow(t *testing.T) {
	d := draw(152)
	for _, c := range configs() {
		node := c.W * c.H / 2
		r := New(c, node)
		words := samples(c)
		var in, out [5][8][]uint64
		for range 4000 {
			port, l := d.below(5), d.below(c.Lanes)
			switch d.below(4) {
			case 0:
				if word := words[d.below(len(words))]; r.Put(port, l, word) == api.OK {
					in[port][l] = append(in[port][l], word)
				}
			case 1:
				r.Find(port, l, d.below(4))
			case 2:
				r.Give(port, l)
			default:
				had := owners(t, c, r)
				m, is := r.Move(port, func(int) bool { return d.below(3) > 0 })
				if !is {
					break
				}
				out[m.From][m.FromLane] = append(out[m.From][m.FromLane], m.Word)
				if m.Port != port || port != api.Local && had[[2]int{m.From, m.FromLane}] != [2]int{port, m.Lane} {
					t.Fatalf("%v: moved by the port %d: %v; had are %v", c, port, m, had)
				}
			}
			owners(t, c, r)
		}
		for port := range 5 {
			for l := range c.Lanes {
				many := len(out[port][l])
				if many+r.Len(port, l) != len(in[port][l]) || !slices.Equal(out[port][l], in[port][l][:many]) {
					t.Fatalf("%v, port %d, lane %d: not in their row", c, port, l)
				}
			}
		}
	}
}

// owners tells of each lane by which words come in the one that it has, and that none has two, nor is had ahead of its phase.
func owners(t *testing.T, c api.Config, r *Router) map[[2]int][2]int {
	t.Helper()
	had := map[[2]int][2]int{}
	for port := range 5 {
		for l := range c.Lanes {
			from, fromLane, is := r.Owner(port, l)
			if !is {
				continue
			}
			who := [2]int{from, fromLane}
			if _, twice := had[who]; twice || port == api.Local || r.Phase(from, fromLane) != 2 {
				t.Fatalf("%v: the port %d, lane %d is had by %v, phase %d; had are %v", c, port, l, who, r.Phase(from, fromLane), had)
			}
			if c.Cast && (l == c.Lanes-1) != (fromLane == c.Lanes-1) {
				t.Fatalf("%v: the port %d, lane %d is had by %v of another class", c, port, l, who)
			}
			had[who] = [2]int{port, l}
		}
	}
	return had
}

// net is routers of all nodes; a word goes from one at once to the one beside, if there is room. What comes to a node is kept by the port and the lane by which it came.
type net struct {
	c       api.Config
	routers []*Router
	came    map[[3]int][]uint64
}

// step lets each part of a node do what it can: did anything?
func (n *net) step(node, choice int) bool {
	r, did := n.routers[node], false
	for port := range api.Ports {
		for l := range n.c.Lanes {
			did = r.Find(port, l, choice) || did
			did = r.Give(port, l) || did
		}
	}
	for port := range api.Ports {
		there, back := (*Router)(nil), grid.Back(port)
		if beside, ok := grid.Beside(n.c, node, port); ok {
			there = n.routers[beside]
		}
		m, is := r.Move(port, func(l int) bool { return there.Room(back, l) > 0 })
		if is && port != api.Local {
			there.Put(back, m.Lane, m.Word)
		}
		if is && (port == api.Local || m.Copy) {
			at := [3]int{node, m.From, m.FromLane}
			n.came[at] = append(n.came[at], m.Word)
		}
		did = did || is
	}
	return did
}

// P15.2: of routers beside one another, every packet comes where it is for, each once, for one and for several; behind the last one all are idle.
func TestPacketsThroughRouters(t *testing.T) {
	for _, c := range []api.Config{
		{W: 3, H: 3, Lanes: 2, Depth: 1, Ring: 1, Inbox: 1, Bound: 1, Cast: true},
		{W: 4, H: 2, Lanes: 3, Depth: 2, Ring: 1, Inbox: 1, Bound: 1, West: true, Cast: true},
		{W: 2, H: 3, Lanes: 1, Depth: 3, Ring: 1, Inbox: 1, Bound: 1, West: true},
	} {
		nodes := c.W * c.H
		n := &net{c: c, came: map[[3]int][]uint64{}}
		left := make([]map[int][]uint64, nodes) // of each node and lane, what isn't put in yet
		for node := range nodes {
			n.routers = append(n.routers, New(c, node))
			left[node] = map[int][]uint64{}
		}
		var want []api.Packet
		for i, p := range parcels(t, c) {
			l := i % max(1, c.Lanes-1)
			if p.Cast {
				l = c.Lanes - 1
			}
			words, _ := cut.Words(p)
			left[p.Src][l] = append(left[p.Src][l], words...)
			want = append(want, cut.Packets(p)...)
		}
		for step, still := 0, 0; still < nodes; step++ {
			if step > 100000 {
				t.Fatalf("%v: it goes on and on", c)
			}
			node, did := step%nodes, false
			for l := range c.Lanes {
				for len(left[node][l]) > 0 && n.routers[node].Put(api.Local, l, left[node][l][0]) == api.OK {
					left[node][l], did = left[node][l][1:], true
				}
			}
			if n.step(node, step/nodes) || did {
				still = 0
			} else {
				still++
			}
		}
		for node, r := range n.routers {
			if !r.Idle() {
				t.Fatalf("%v: the node %d isn't idle", c, node)
			}
		}
		n.samePackets(t, want)
	}
}

func (n *net) samePackets(t *testing.T, want []api.Packet) {
	t.Helper()
	var got []api.Packet
	for at, words := range n.came {
		packets, taken := join.All(words)
		if taken != len(words) {
			t.Fatalf("%v, %v: of %d words %d are taken", n.c, at, len(words), taken)
		}
		for _, p := range packets {
			if p.Dst != at[0] {
				t.Fatalf("%v: %v came to the node %d", n.c, p, at[0])
			}
		}
		got = append(got, packets...)
	}
	less := func(a, b api.Packet) int {
		return slices.Compare([]int{a.Src, a.Dst, a.Seq}, []int{b.Src, b.Dst, b.Seq})
	}
	slices.SortFunc(got, less)
	slices.SortFunc(want, less)
	if !slices.Equal(got, want) {
		t.Fatalf("%v: %d packets came, want %d", n.c, len(got), len(want))
	}
}

// parcels are of each pair of nodes, and, where there is a class for it, of each node to all that are ahead on the line, and to all behind.
func parcels(t *testing.T, c api.Config) []cut.Parcel {
	t.Helper()
	const text = "abcdefghijklmnopqrstuvwxyz"
	var all []cut.Parcel
	var set []int
	for node := range c.W * c.H {
		set = append(set, node)
	}
	for _, src := range set {
		for _, dst := range set {
			all = append(all, cut.Parcel{Src: src, Heads: []cut.To{{Node: dst, Seq: 1}}, Data: text[:(src*7+dst)%27]})
		}
		plan, _ := snake.Plan(c, src, set)
		for _, way := range plan[:2] {
			p := cut.Parcel{Src: src, Cast: true, Data: text[:src]}
			for _, node := range way {
				p.Heads = append(p.Heads, cut.To{Node: node, Seq: 2})
			}
			if c.Cast && len(way) > 0 {
				all = append(all, p)
			}
		}
	}
	return all
}

// R6: what one router is given, another one of the same node doesn't tell.
func TestEachHasItsOwn(t *testing.T) {
	c := middle(2, false)
	a, b := New(c, 4), New(c, 4)
	begun(t, a, 0, 0, head(5), tail())
	a.Move(api.East, yes)
	if !b.Idle() || b.Phase(0, 0) != 0 || b.Room(0, 0) != 4 {
		t.Error("both were turned")
	}
	owns(t, b, api.East, 0, 0, 0, false)
	begun(t, b, 3, 1, head(5))
	owns(t, b, api.East, 0, 3, 1, true)
	owns(t, a, api.East, 0, 0, 0, true)
}

// P15.1, R7: of nil; T0: one that New did not make has no lanes, and panics no more than another one.
func TestNilAndNotMadeByNew(t *testing.T) {
	for _, r := range []*Router{nil, {}} {
		for port := -1; port <= 5; port++ {
			got, is := r.Move(port, yes)
			if r.Put(port, 0, tail()) != api.ErrArg || r.Find(port, 0, 0) || r.Give(port, 0) || is || got != (Moved{}) {
				t.Errorf("port %d: something was done", port)
			}
			if r.Len(port, 0) != 0 || r.Room(port, 0) != 0 || r.Phase(port, 0) != 0 {
				t.Errorf("port %d: %d, %d, %d", port, r.Len(port, 0), r.Room(port, 0), r.Phase(port, 0))
			}
			owns(t, r, port, 0, 0, 0, false)
		}
		if !r.Idle() {
			t.Error("not idle")
		}
	}
}

// P15.1: a Head by its own check alone: of bits beyond its fields, it is none.
func TestHeadOfMoreBits(t *testing.T) {
	r := New(middle(1, false), 4)
	r.Put(0, 0, bits.Seal(head(5)&(1<<56-1)|1<<55))
	if r.Find(0, 0, 0) || r.Phase(0, 0) != 0 {
		t.Error("found")
	}
}
