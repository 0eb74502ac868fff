package lane

import (
	"math"
	"slices"
	"testing"

	"reticule/api"
	"reticule/bits"
	"reticule/cut"
	"reticule/flit"
	"reticule/join"
)

// here is the node at which the lanes of these tests are.
const here = 5

// draw makes numbers in a row that is always the same.
type draw uint64

func (d *draw) below(n int) int {
	*d = *d*6364136223846793005 + 1442695040888963407
	return int(uint64(*d) >> 33 % uint64(n))
}

// head tells the word of a Head for a node.
func head(to int, more bool) uint64 {
	return written(api.Flit{Kind: api.Head, Src: 1, Dst: to, Seq: 9, Len: 8, More: more, Cast: more})
}

func body() uint64 {
	return written(api.Flit{Kind: api.Body, Data: "abcdef"})
}

func tail() uint64 {
	return written(api.Flit{Kind: api.Tail, Data: "gh"})
}

func written(f api.Flit) uint64 {
	word, e := flit.Write(f)
	if e != api.OK {
		panic("no flit")
	}
	return word
}

// Words that layer 3's Read refuses: of another check, and of what no flit has.

func wrongSum(word uint64) uint64 {
	return word ^ 1<<55
}

func wrongHead(more uint32) uint64 {
	word, e := bits.Pack([]int{2, 12, 12, 16, 7, 1, 1}, api.Head, 1, here, 9, 65, more, 0)
	if e != api.OK {
		panic("no word")
	}
	return bits.Seal(word)
}

func wrongTail() uint64 {
	return bits.Seal(api.Tail | 7<<2)
}

// sampleWords are of each sort that the chapter tells apart.
func sampleWords() []uint64 {
	return []uint64{
		head(here, false), head(here, true), head(6, false), head(6, true), body(), tail(),
		wrongSum(head(here, true)), wrongSum(head(6, false)), wrongHead(1), wrongSum(body()), wrongSum(tail()), wrongTail(),
		0, 1, 2, 3, math.MaxUint64, math.MaxUint64 - 3, bits.Seal(0),
	}
}

// plain is what the document says a lane is, told word by word.
type plain struct {
	room       int
	words      []uint64
	phase      int
	port, lane int // whatever they are, ahead of their phases they aren't told
	copies     bool
}

func (m *plain) put(word uint64) api.Errno {
	if len(m.words) == m.room {
		return api.ErrFull
	}
	m.words = append(m.words, word)
	return api.OK
}

func (m *plain) find(node, port int) (is, asked bool) {
	if m.phase != 0 || len(m.words) == 0 {
		return false, false
	}
	f, e := flit.Read(m.words[0])
	if e != api.OK || f.Kind != api.Head {
		return false, false
	}
	if f.Dst == node {
		m.phase, m.port, m.lane = 2, 0, 0
		return true, false
	}
	if !slices.Contains([]int{1, 2, 3, 4}, port) {
		return false, true
	}
	m.phase, m.port = 1, port
	return true, true
}

func (m *plain) give(lane int) bool {
	if m.phase != 1 {
		return false
	}
	m.phase, m.lane = 2, lane
	return true
}

func (m *plain) take() (Out, api.Errno) {
	if m.phase != 2 {
		return Out{}, api.ErrState
	}
	if len(m.words) == 0 {
		return Out{}, api.ErrEmpty
	}
	word := m.words[0]
	m.words = m.words[1:]
	isHead, isTail := word%4 == 1, word%4 == 3
	out := Out{Port: m.port, Lane: m.lane, Word: word, Copy: m.port != 0 && m.copies && !isHead, Ends: isTail}
	if f, e := flit.Read(word); m.port == 0 && isHead && e == api.OK && f.More {
		m.phase, m.copies = 0, true
	}
	if isTail {
		m.phase, m.copies = 0, false
	}
	return out, api.OK
}

func (m *plain) told() [6]int {
	all := [6]int{len(m.words), m.room - len(m.words), m.phase, 0, 0, one(m.copies)}
	if m.phase > 0 {
		all[3] = m.port
	}
	if m.phase > 1 {
		all[4] = m.lane
	}
	return all
}

// told is all that can be told of a lane beside its first word.
func told(l *Lane) [6]int {
	return [6]int{l.Len(), l.Room(), l.Phase(), l.Port(), l.Given(), one(l.Copies())}
}

func one(is bool) int {
	if is {
		return 1
	}
	return 0
}

// call is one that a lane and the plain one are asked: 'p' Put, 'f' Find, 'g' Give, 't' Take; of the last one the number is nothing.
type call struct {
	name   byte
	number int
}

// pair is a lane and the plain one, which are asked the same; a fault is told with the calls that led to it.
type pair struct {
	t     *testing.T
	l     *Lane
	m     *plain
	words []uint64
	asked []call
}

func newPair(t *testing.T, room int) *pair {
	return &pair{t: t, l: New(room), m: &plain{room: room}, words: sampleWords()}
}

func (p *pair) ask(c call) {
	p.asked = append(p.asked, c)
	switch c.name {
	case 'p':
		word := p.words[c.number]
		if e, want := p.l.Put(word), p.m.put(word); e != want {
			p.fault("Put", e, want)
		}
	case 'f':
		p.find(c.number)
	case 'g':
		if is, want := p.l.Give(c.number), p.m.give(c.number); is != want {
			p.fault("Give", is, want)
		}
	case 't':
		out, e := p.l.Take()
		if want, wantE := p.m.take(); out != want || e != wantE {
			p.fault("Take", []any{out, e}, []any{want, wantE})
		}
	}
	p.same()
}

func (p *pair) find(port int) {
	var heads []api.Flit
	is := p.l.Find(here, func(f api.Flit) int {
		heads = append(heads, f)
		return port
	})
	var wantHeads []api.Flit
	want, asks := p.m.find(here, port)
	if asks {
		f, _ := flit.Read(p.m.words[0])
		wantHeads = append(wantHeads, f)
	}
	if is != want || !slices.Equal(heads, wantHeads) {
		p.fault("Find", []any{is, heads}, []any{want, wantHeads})
	}
}

// same holds all that can be told of the lane against the plain one; each is told twice, for telling changes nothing.
func (p *pair) same() {
	for range 2 {
		if got, want := told(p.l), p.m.told(); got != want {
			p.fault("Len, Room, Phase, Port, Given, Copies", got, want)
		}
		var first uint64
		wantE := api.ErrEmpty
		if len(p.m.words) > 0 {
			first, wantE = p.m.words[0], api.OK
		}
		if word, e := p.l.Peek(); word != first || e != wantE {
			p.fault("Peek", []any{word, e}, []any{first, wantE})
		}
	}
}

func (p *pair) fault(what string, got, want any) {
	p.t.Helper()
	led := ""
	for _, c := range p.asked[max(0, len(p.asked)-12):] {
		led += " " + string(rune(c.name))
	}
	p.t.Fatalf("room %d, behind the calls%s: %s: %v, want %v (%v)", p.m.room, led, what, got, want, p.asked[max(0, len(p.asked)-12):])
}

// filled makes a lane with words in it.
func filled(t *testing.T, room int, words ...uint64) *Lane {
	t.Helper()
	l := New(room)
	for i, word := range words {
		if e := l.Put(word); e != api.OK {
			t.Fatalf("Put of the word %d: error %d", i, e)
		}
	}
	return l
}

func east(f api.Flit) int { return api.East }

// drained finds, gives the lane 2, and takes, for each word that the lane has; it tells what was taken.
func drained(l *Lane, node int) []Out {
	var outs []Out
	for range l.Len() {
		l.Find(node, east)
		l.Give(2)
		if out, e := l.Take(); e == api.OK {
			outs = append(outs, out)
		}
	}
	return outs
}

// P14.1: the example of the chapter.
func TestExample(t *testing.T) {
	l := filled(t, 2, head(here, false), tail())
	want := []Out{{Word: head(here, false)}, {Word: tail(), Ends: true}}
	if got := drained(l, here); !slices.Equal(got, want) || l.Phase() != 0 {
		t.Errorf("%v, phase %d", got, l.Phase())
	}
}

// P14.1: all rows of calls, for lanes so small that each row meets their edges.
func TestEveryRowOfCalls(t *testing.T) {
	calls := []call{{'f', api.East}, {'f', api.Local}, {'g', 3}, {'t', 0}}
	for _, word := range []int{0, 1, 2, 3, 4, 5, 6} {
		calls = append(calls, call{'p', word})
	}
	const long = 5
	rows := 1
	for range long {
		rows *= len(calls)
	}
	for room := 1; room <= 3; room++ {
		for row := range rows {
			p := newPair(t, room)
			for range long {
				p.ask(calls[row%len(calls)])
				row /= len(calls)
			}
		}
	}
}

// P14.1: all rows of up to four words, of each sort, go through.
func TestEveryRowOfWords(t *testing.T) {
	sorts := []int{0, 1, 2, 3, 4, 5, 6, 8, 10, 12}
	for long := 1; long <= 4; long++ {
		rows := 1
		for range long {
			rows *= len(sorts)
		}
		for row := range rows {
			p := newPair(t, long)
			for range long {
				p.ask(call{'p', sorts[row%len(sorts)]})
				row /= len(sorts)
			}
			for i := range long + 1 {
				p.ask(call{'f', 1 + i})
				p.ask(call{'g', i})
				p.ask(call{'t', 0})
			}
		}
	}
}

// P14.1: a way is found and given, then each row of two words, of all sorts, goes by it, with and without copying.
func TestWordsByEachWay(t *testing.T) {
	ways := [][]call{
		{{'p', 0}, {'f', 9}, {'t', 0}},
		{{'p', 2}, {'f', api.South}, {'g', 4}, {'t', 0}},
		{{'p', 1}, {'f', 9}, {'t', 0}, {'p', 2}, {'f', api.West}, {'g', 1}, {'t', 0}},
		{{'p', 1}, {'f', 9}, {'t', 0}, {'p', 0}, {'f', 9}, {'t', 0}},
		{{'p', 1}, {'f', 9}, {'t', 0}},
	}
	words := len(sampleWords())
	for _, way := range ways {
		for row := range words * words {
			p := newPair(t, 2)
			for _, c := range way {
				p.ask(c)
			}
			for _, word := range []int{row % words, row / words} {
				p.ask(call{'p', word})
				p.ask(call{'t', 0})
				p.ask(call{'f', api.North})
				p.ask(call{'g', 7})
				p.ask(call{'t', 0})
			}
		}
	}
}

// P14.1: long rows of calls, in which now the one hand, now the other one lags behind, so that the lane fills and empties.
func TestLongRowsOfCalls(t *testing.T) {
	d := draw(14)
	for _, room := range []int{1, 2, 3, 7, 8, 63, 64} {
		for range 40 {
			p := newPair(t, room)
			puts, takes := 1+d.below(6), 1+d.below(6)
			for range 400 {
				c := []call{{'f', d.below(6)}, {'f', 1 + d.below(4)}, {'g', d.below(8)}}[d.below(3)]
				switch n := d.below(puts + takes + 6); {
				case n < puts:
					c = call{'p', d.below(len(p.words))}
				case n < puts+takes:
					c = call{'t', 0}
				}
				p.ask(c)
			}
		}
	}
}

// P14.1: rooms at and out of the bounds are the nearer one of both.
func TestRoomIsHeldToItsBounds(t *testing.T) {
	for _, x := range []struct{ room, want int }{
		{math.MinInt, 1}, {-1, 1}, {0, 1}, {1, 1}, {2, 2}, {63, 63}, {64, 64}, {65, 64}, {4096, 64}, {math.MaxInt, 64},
	} {
		l := New(x.room)
		if got, want := told(l), ([6]int{0, x.want}); got != want {
			t.Errorf("New(%d): %v", x.room, got)
		}
		for i := range x.want {
			if e := l.Put(uint64(i)); e != api.OK {
				t.Fatalf("New(%d): Put %d: error %d", x.room, i, e)
			}
		}
		if e := l.Put(0); e != api.ErrFull || l.Len() != x.want || l.Room() != 0 {
			t.Errorf("New(%d): past the room: error %d, %v", x.room, e, told(l))
		}
	}
}

// P14.1: words go in their row and as they are, in whatever phase they were put in; of one that there is no room for, nothing stays.
func TestWordsGoInTheirRow(t *testing.T) {
	l := filled(t, 3, head(6, false))
	l.Find(here, east)
	l.Put(11 << 2)
	l.Give(1)
	l.Put(12 << 2)
	if e := l.Put(13 << 2); e != api.ErrFull {
		t.Errorf("Put of a full one: error %d", e)
	}
	var got []uint64
	for i := range 200 {
		out, e := l.Take()
		if e != api.OK {
			t.Fatalf("Take %d: error %d", i, e)
		}
		got = append(got, out.Word)
		l.Put(uint64(100+i) << 2)
	}
	want := []uint64{head(6, false), 11 << 2, 12 << 2}
	for i := range 197 {
		want = append(want, uint64(100+i)<<2)
	}
	if !slices.Equal(got, want) {
		t.Errorf("taken: %v", got)
	}
}

// P14.1: a Head for the node itself finds Local, the lane 0, and phase 2, and nobody is asked; whatever the number of the node.
func TestFindForTheNodeItself(t *testing.T) {
	never := func(f api.Flit) int {
		t.Errorf("asked of %v", f)
		return api.East
	}
	for _, node := range []int{0, 1, here, 4095} {
		for _, more := range []bool{false, true} {
			l := filled(t, 2, head(node, more))
			if !l.Find(node, never) || told(l) != [6]int{1, 1, 2, api.Local, 0, 0} {
				t.Errorf("node %d, more %v: %v", node, more, told(l))
			}
			if l = filled(t, 2, head(node, more)); !l.Find(node, nil) {
				t.Errorf("node %d, more %v: not found, where the function is nil", node, more)
			}
		}
	}
}

// P14.1: of nodes that no Head is for, the way of each Head is asked.
func TestFindAtAnyNode(t *testing.T) {
	for _, node := range []int{math.MinInt, -1, 4, 6, 4096, 1 << 12 * 5, math.MaxInt} {
		l := filled(t, 1, head(here, false))
		if !l.Find(node, east) || told(l) != [6]int{1, 0, 1, api.East, 0, 0} {
			t.Errorf("node %d: %v", node, told(l))
		}
	}
}

// P14.1: the function is handed the Head, just once, and nothing has been changed by then.
func TestFindAsksOfTheHead(t *testing.T) {
	f := api.Flit{Kind: api.Head, Src: 4095, Dst: 77, Seq: 65535, Len: 64, More: true, Cast: true}
	l := filled(t, 2, written(f), tail())
	asked := 0
	is := l.Find(here, func(got api.Flit) int {
		asked++
		if got != f || told(l) != [6]int{2, 0, 0, 0, 0, 0} {
			t.Errorf("asked of %v, when the lane is %v", got, told(l))
		}
		return api.North
	})
	if !is || asked != 1 || told(l) != [6]int{2, 0, 1, api.North, 0, 0} {
		t.Errorf("%v, asked %d times, %v", is, asked, told(l))
	}
	if word, e := l.Peek(); word != written(f) || e != api.OK {
		t.Errorf("the first word: %d, error %d", word, e)
	}
}

// P14.1: a port that is none of 1 to 4 changes nothing, nor does a function that is nil or panics; then another one finds the way.
func TestFindPorts(t *testing.T) {
	for _, port := range []int{math.MinInt, -4, -1, 0, 1, 2, 3, 4, 5, 6, 1<<32 + 1, math.MaxInt} {
		l := filled(t, 1, head(6, false))
		is, want := l.Find(here, func(api.Flit) int { return port }), [6]int{1, 0, 0, 0, 0, 0}
		if port >= 1 && port <= 4 {
			want = [6]int{1, 0, 1, port, 0, 0}
		}
		if is != (port >= 1 && port <= 4) || told(l) != want {
			t.Errorf("port %d: %v, %v", port, is, told(l))
		}
	}
	l := filled(t, 1, head(6, false))
	var none []int
	for i, way := range []func(api.Flit) int{nil, func(api.Flit) int { panic("no port") }, func(api.Flit) int { panic(nil) }, func(api.Flit) int { return none[0] }} {
		if l.Find(here, way) || told(l) != [6]int{1, 0, 0, 0, 0, 0} {
			t.Errorf("function %d: %v", i, told(l))
		}
	}
	if !l.Find(here, east) || l.Port() != api.East {
		t.Errorf("then: %v", told(l))
	}
}

// P14.1: where there is no word, or the first one is no Head by layer 3's Read, nothing is found and nobody is asked.
func TestFindNoHead(t *testing.T) {
	asked := 0
	way := func(api.Flit) int {
		asked++
		return api.East
	}
	for i, word := range []uint64{
		body(), tail(), wrongSum(head(here, false)), wrongSum(head(6, true)), wrongHead(0), wrongHead(1), wrongTail(), 0, 1, math.MaxUint64,
	} {
		l := filled(t, 2, word, head(here, false))
		if l.Find(here, way) || told(l) != [6]int{2, 0, 0, 0, 0, 0} {
			t.Errorf("word %d: %v", i, told(l))
		}
		if _, e := l.Take(); e != api.ErrState || l.Len() != 2 {
			t.Errorf("word %d: Take: error %d", i, e)
		}
	}
	if l := New(2); l.Find(here, way) || told(l) != [6]int{0, 2, 0, 0, 0, 0} {
		t.Errorf("without a word: %v", told(l))
	}
	if asked != 0 {
		t.Errorf("asked %d times", asked)
	}
}

// P14.1: a way is found in phase 0 alone, a lane is given in phase 1 alone.
func TestPhasesAreInTheirRow(t *testing.T) {
	asked := 0
	way := func(api.Flit) int {
		asked++
		return api.West
	}
	l := filled(t, 2, head(6, false))
	if l.Give(1) || l.Phase() != 0 {
		t.Errorf("given in phase 0: %v", told(l))
	}
	if !l.Find(here, way) || l.Find(here, way) || l.Find(6, way) || told(l) != [6]int{1, 1, 1, api.West, 0, 0} {
		t.Errorf("found twice: %v", told(l))
	}
	if !l.Give(3) || l.Give(4) || told(l) != [6]int{1, 1, 2, api.West, 3, 0} {
		t.Errorf("given twice: %v", told(l))
	}
	if l.Find(here, way) || l.Find(6, way) || told(l) != [6]int{1, 1, 2, api.West, 3, 0} || asked != 1 {
		t.Errorf("found in phase 2: %v, asked %d times", told(l), asked)
	}
	own := filled(t, 2, head(here, false))
	if !own.Find(here, way) || own.Give(4) || told(own) != [6]int{1, 1, 2, api.Local, 0, 0} {
		t.Errorf("given to the node's own: %v", told(own))
	}
}

// P14.1, R5: a lane that is given may be any number.
func TestAnyLaneIsGiven(t *testing.T) {
	for _, lane := range []int{math.MinInt, -1, 0, 1, 7, 8, 64, math.MaxInt} {
		l := filled(t, 1, head(6, false))
		l.Find(here, east)
		if !l.Give(lane) || l.Given() != lane || l.Phase() != 2 {
			t.Errorf("lane %d: %v", lane, told(l))
		}
		want := Out{Port: api.East, Lane: lane, Word: head(6, false)}
		if out, e := l.Take(); out != want || e != api.OK {
			t.Errorf("lane %d: %v, error %d", lane, out, e)
		}
	}
}

// P14.1, R1, R3: ErrState comes ahead of ErrEmpty; what is refused changes nothing.
func TestTakeIsRefused(t *testing.T) {
	l := New(2)
	refused := func(want api.Errno) {
		t.Helper()
		was := told(l)
		for range 2 {
			if out, e := l.Take(); out != (Out{}) || e != want || told(l) != was {
				t.Errorf("%v, error %d, want %d; %v, was %v", out, e, want, told(l), was)
			}
		}
	}
	refused(api.ErrState)
	l.Put(head(6, false))
	refused(api.ErrState)
	l.Find(here, east)
	refused(api.ErrState)
	l.Give(1)
	l.Take()
	refused(api.ErrEmpty)
	l.Put(tail())
	l.Take()
	refused(api.ErrState)
	l.Put(tail())
	refused(api.ErrState)
}

// P14.1: what comes of a word that is taken by Local: of a Head with More phase 0 and copying, of a Tail phase 0 without it, of others nothing.
func TestTakenByLocal(t *testing.T) {
	stays := [6]int{0, 8, 2, 0, 0, 0}
	for i, x := range []struct {
		word uint64
		want [6]int
	}{
		{head(here, false), stays}, {head(here, true), [6]int{0, 8, 0, 0, 0, 1}}, {head(6, true), [6]int{0, 8, 0, 0, 0, 1}}, {head(6, false), stays},
		{body(), stays}, {tail(), [6]int{0, 8, 0, 0, 0, 0}}, {wrongTail(), [6]int{0, 8, 0, 0, 0, 0}}, {3, [6]int{0, 8, 0, 0, 0, 0}},
		{wrongSum(head(here, true)), stays}, {wrongHead(1), stays}, {wrongHead(0), stays}, {1, stays}, {0, stays}, {math.MaxUint64 - 1, stays},
	} {
		l := filled(t, 8, head(here, false), x.word)
		l.Find(here, nil)
		l.Take()
		want := Out{Word: x.word, Ends: x.word%4 == 3}
		if out, e := l.Take(); out != want || e != api.OK || told(l) != x.want {
			t.Errorf("word %d: %v, error %d, %v", i, out, e, told(l))
		}
	}
}

// P14.1: what comes of a word that is taken by another port, where the lane copies and where it doesn't: only a Tail ends the way, and no Head is copied.
func TestTakenByAnotherPort(t *testing.T) {
	for _, copies := range []bool{false, true} {
		for i, word := range sampleWords() {
			l := New(8)
			if copies {
				l.Put(head(here, true))
				l.Find(here, nil)
				l.Take()
			}
			l.Put(head(6, false))
			l.Put(word)
			l.Find(here, east)
			l.Give(2)
			if out, e := l.Take(); out != (Out{Port: api.East, Lane: 2, Word: head(6, false)}) || e != api.OK {
				t.Errorf("copies %v: the Head: %v, error %d", copies, out, e)
			}
			ends := word%4 == 3
			want := Out{Port: api.East, Lane: 2, Word: word, Copy: copies && word%4 != 1, Ends: ends}
			after := [6]int{0, 8, 2, api.East, 2, one(copies)}
			if ends {
				after = [6]int{0, 8}
			}
			if out, e := l.Take(); out != want || e != api.OK || told(l) != after {
				t.Errorf("copies %v, word %d: %v, error %d, %v", copies, i, out, e, told(l))
			}
		}
	}
}

// P14.1: a lane copies from the node's own Head with More on, till the Tail; the next packet isn't copied.
func TestCopiesTillTheTail(t *testing.T) {
	l := filled(t, 8, head(here, true), head(6, true), head(7, false), body(), tail(), head(6, false), body(), tail())
	by := func(word uint64, is, ends bool) Out {
		return Out{Port: api.East, Lane: 2, Word: word, Copy: is, Ends: ends}
	}
	want := []Out{
		{Word: head(here, true)}, by(head(6, true), false, false), by(head(7, false), false, false), by(body(), true, false), by(tail(), true, true),
		by(head(6, false), false, false), by(body(), false, false), by(tail(), false, true),
	}
	if got := drained(l, here); !slices.Equal(got, want) || told(l) != [6]int{0, 8} {
		t.Errorf("%v, %v", got, told(l))
	}
}

// P14.1: two Heads for the node itself, one behind the other: what goes to Local isn't told to the node another time.
func TestOwnHeadsBehindEachOther(t *testing.T) {
	l := filled(t, 8, head(here, true), head(here, false), body(), tail())
	want := []Out{{Word: head(here, true)}, {Word: head(here, false)}, {Word: body()}, {Word: tail(), Ends: true}}
	if got := drained(l, here); !slices.Equal(got, want) || told(l) != [6]int{0, 8} {
		t.Errorf("%v, %v", got, told(l))
	}
}

// parcels are of one to four Heads, the first one for here, and of some numbers of bytes, from none to the most.
func parcels() []cut.Parcel {
	const text = "abcdefghijklmnopqrstuvwxyzABCDEFGHIJKLMNOPQRSTUVWXYZ0123456789+-"
	heads := []cut.To{{Node: here, Seq: 3}, {Node: 6, Seq: 65535}, {Node: 4095}, {Node: 0, Seq: 1}}
	var all []cut.Parcel
	for many := 1; many <= len(heads); many++ {
		for _, size := range []int{0, 1, 5, 6, 7, 12, 13, 63, 64} {
			all = append(all, cut.Parcel{Src: 9, Cast: true, Heads: heads[:many], Data: text[:size]})
			if many == 1 {
				all = append(all, cut.Parcel{Src: 9, Heads: heads[:1], Data: text[:size]})
			}
		}
	}
	return all
}

func wordsOf(t *testing.T, p cut.Parcel) []uint64 {
	t.Helper()
	words, e := cut.Words(p)
	if e != api.OK {
		t.Fatalf("no parcel: error %d", e)
	}
	return words
}

// through lets words go through a lane at a node, as many at once as there is room for: it tells what goes to the node, and what goes on.
func through(t *testing.T, l *Lane, node int, words []uint64) (to, on []uint64) {
	t.Helper()
	for len(words) > 0 {
		for len(words) > 0 && l.Put(words[0]) == api.OK {
			words = words[1:]
		}
		outs := drained(l, node)
		if l.Len() != 0 {
			t.Fatalf("it stands still: %v", told(l))
		}
		for _, out := range outs {
			if out.Copy || out.Port == api.Local {
				to = append(to, out.Word)
			}
			if out.Port != api.Local {
				on = append(on, out.Word)
			}
		}
	}
	return to, on
}

// P14.2: at the node of its first Head, a parcel tells the node that Head and all that isn't one; all but that Head go on, if another one follows. Of one lane, all parcels one behind the other.
func TestParcelAtTheNodeOfItsFirstHead(t *testing.T) {
	for _, room := range []int{1, 2, 5, 64} {
		l := New(room)
		for _, p := range slices.Concat(parcels(), parcels()) {
			words := wordsOf(t, p)
			wantTo := slices.Concat(words[:1], words[len(p.Heads):])
			var wantOn []uint64
			if len(p.Heads) > 1 {
				wantOn = words[1:]
			}
			to, on := through(t, l, here, words)
			if !slices.Equal(to, wantTo) || !slices.Equal(on, wantOn) {
				t.Fatalf("room %d, %v: to the node %v, on %v", room, p, to, on)
			}
			if told(l) != [6]int{0, room} {
				t.Fatalf("room %d, %v: %v", room, p, told(l))
			}
		}
	}
}

// P14.1: at another node, a parcel goes on with all its words.
func TestParcelAtAnotherNode(t *testing.T) {
	l := New(3)
	for _, p := range parcels() {
		words := wordsOf(t, p)
		if to, on := through(t, l, 8, words); len(to) != 0 || !slices.Equal(on, words) {
			t.Fatalf("%v: to the node %v, on %v", p, to, on)
		}
	}
}

// P14.2: by the nodes of its Heads, one behind the other, a parcel leaves at each the packet that is told there, and nothing goes on from the last one.
func TestParcelLeavesItsPackets(t *testing.T) {
	for _, p := range parcels() {
		words := wordsOf(t, p)
		var got []api.Packet
		for _, at := range p.Heads {
			to, on := through(t, New(4), at.Node, words)
			packets, taken := join.All(to)
			if taken != len(to) || len(packets) != 1 {
				t.Fatalf("%v, node %d: of %d words %d are taken, %d packets", p, at.Node, len(to), taken, len(packets))
			}
			got, words = append(got, packets...), on
		}
		if !slices.Equal(got, cut.Packets(p)) || len(words) != 0 {
			t.Fatalf("%v: %v; on go %v", p, got, words)
		}
	}
}

// R6: what one lane is given, another one doesn't tell.
func TestEachHasItsOwn(t *testing.T) {
	a, b := New(2), New(2)
	a.Put(head(here, true))
	a.Find(here, nil)
	a.Take()
	a.Put(head(6, false))
	a.Find(here, east)
	a.Give(1)
	if told(a) != [6]int{1, 1, 2, api.East, 1, 1} || told(b) != [6]int{0, 2} {
		t.Errorf("%v, %v", told(a), told(b))
	}
}

// P14.1, R7: of nil.
func TestNil(t *testing.T) {
	var l *Lane
	for range 2 {
		word, e := l.Peek()
		out, outE := l.Take()
		if word != 0 || e != api.ErrArg || out != (Out{}) || outE != api.ErrArg || l.Put(tail()) != api.ErrArg {
			t.Errorf("%d, error %d; %v, error %d", word, e, out, outE)
		}
		if l.Find(here, east) || l.Find(here, nil) || l.Give(0) || told(l) != [6]int{} {
			t.Errorf("%v", told(l))
		}
	}
}

// T0: a Lane that New did not make has no room, and panics no more than another one.
func TestNotMadeByNew(t *testing.T) {
	var l Lane
	_, e := l.Peek()
	_, takeE := l.Take()
	if e == api.OK || takeE == api.OK || l.Put(tail()) == api.OK || l.Find(here, east) || l.Give(0) || told(&l) != [6]int{} {
		t.Errorf("error %d, %d, %v", e, takeE, told(&l))
	}
}

// T0: a function that turns the lane it is asked for makes no call panic; what the call finds that asked it counts last.
func TestFunctionThatTurnsTheLane(t *testing.T) {
	l := filled(t, 3, head(6, false), tail())
	is := l.Find(here, func(api.Flit) int {
		l.Find(here, east)
		l.Give(1)
		l.Take()
		return api.South
	})
	if !is || l.Port() != api.South || l.Phase() != 1 {
		t.Errorf("%v, %v", is, told(l))
	}
}
