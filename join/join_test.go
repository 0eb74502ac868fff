package join

import (
	"math"
	"slices"
	"strings"
	"testing"

	"reticule/api"
	"reticule/bits"
	"reticule/cut"
	"reticule/flit"
)

// draw makes numbers in a row that is always the same.
type draw uint64

func (d *draw) below(n int) int {
	*d = *d*6364136223846793005 + 1442695040888963407
	return int(uint64(*d) >> 33 % uint64(n))
}

// word tells any 64 bits.
func (d *draw) word() uint64 {
	return uint64(d.below(1<<31))<<33 ^ uint64(d.below(1<<31))<<16 ^ uint64(d.below(1<<31))
}

// text tells so many bytes, any of them, such as are no text among them.
func (d *draw) text(n int) string {
	l := make([]byte, n)
	for i := range l {
		l[i] = byte(d.below(256))
	}
	return string(l)
}

func (d *draw) packet(bytes int) api.Packet {
	return api.Packet{Src: d.below(4096), Dst: d.below(4096), Seq: d.below(65536), Data: d.text(bytes)}
}

func headWord(src, dst, seq, bytes int, more, cast bool) uint64 {
	word := 1 + uint64(src)<<2 + uint64(dst)<<14 + uint64(seq)<<26 + uint64(bytes)<<42
	if more {
		word += 1 << 49
	}
	if cast {
		word += 1 << 50
	}
	return bits.Seal(word)
}

// head tells the Head's word of a packet from 1 to 2, whose number is 3.
func head(bytes int) uint64 { return headWord(1, 2, 3, bytes, false, false) }

func dataWord(kind uint64, data string) uint64 {
	word := kind + uint64(len(data))<<2
	for i := range len(data) {
		word += uint64(data[i]) << (5 + 8*i)
	}
	return bits.Seal(word)
}

func body(data string) uint64 { return dataWord(2, data) }

func tail(data string) uint64 { return dataWord(3, data) }

// wordsOf puts a packet's words one behind the other: a Head, Bodies while there are more than 6 bytes, a Tail.
func wordsOf(p api.Packet) []uint64 {
	l := []uint64{headWord(p.Src, p.Dst, p.Seq, len(p.Data), false, false)}
	rest := p.Data
	for ; len(rest) > 6; rest = rest[6:] {
		l = append(l, body(rest[:6]))
	}
	return append(l, tail(rest))
}

// plain keeps the flits that came since a packet began, its Head first; none, if none has.
type plain []api.Flit

func (m plain) bytes() string {
	var data string
	for _, f := range m {
		data += f.Data
	}
	return data
}

func (m *plain) take(word uint64) (api.Packet, bool, api.Errno) {
	f, e := flit.Read(word)
	if e != api.OK {
		return api.Packet{}, false, e
	}
	if (f.Kind == api.Head) != (len(*m) == 0) {
		return api.Packet{}, false, api.ErrState
	}
	all := append(slices.Clone(*m), f)
	first, data := all[0], all.bytes()
	isTooLong := len(data) > first.Len
	switch {
	case f.Kind == api.Tail:
		*m = nil
		if len(data) != first.Len {
			return api.Packet{}, false, api.ErrSize
		}
		return api.Packet{Src: first.Src, Dst: first.Dst, Seq: first.Seq, Data: data}, true, api.OK
	case isTooLong:
		return api.Packet{}, false, api.ErrSize
	}
	*m = all
	return api.Packet{}, false, api.OK
}

// hold hands words to one Join, one by one, and to the plain one, and holds all answers against one another; then it asks All.
func hold(t *testing.T, words []uint64) {
	t.Helper()
	j, m := New(), plain(nil)
	var packets []api.Packet
	taken := -1 // how many words come ahead of the first that is refused
	for i, word := range words {
		want, isWhole, we := m.take(word)
		if p, ok, e := j.Take(word); p != want || ok != isWhole || e != we {
			t.Fatalf("%#x: Take of the word %d: %+v, %v, error %d, want %+v, %v, error %d", short(words), i, p, ok, e, want, isWhole, we)
		}
		if j.Begun() != (len(m) != 0) || j.Has() != len(m.bytes()) {
			t.Fatalf("%#x: behind the word %d Begun is %v, Has is %d, want %v, %d", short(words), i, j.Begun(), j.Has(), len(m) != 0, len(m.bytes()))
		}
		if we != api.OK && taken < 0 {
			taken = i
		}
		if isWhole && taken < 0 {
			packets = append(packets, want)
		}
	}
	if taken < 0 {
		taken = len(words)
	}
	if l, n := All(words); !slices.Equal(l, packets) || n != taken {
		t.Fatalf("All(%#x): %+v, %d, want %+v, %d", short(words), l, n, packets, taken)
	}
}

func short(words []uint64) []uint64 { return words[:min(len(words), 16)] }

// step is a word, and what is to be told of it.
type step struct {
	why   string
	word  uint64
	whole bool
	e     api.Errno
	has   int
	begun bool
}

func holdSteps(t *testing.T, p api.Packet, steps ...step) {
	t.Helper()
	j := New()
	for i, s := range steps {
		want := api.Packet{}
		if s.whole {
			want = p
		}
		if got, ok, e := j.Take(s.word); got != want || ok != s.whole || e != s.e || j.Has() != s.has || j.Begun() != s.begun {
			t.Errorf("%d, %s: %+v, %v, error %d; Has %d, Begun %v; want %+v", i, s.why, got, ok, e, j.Has(), j.Begun(), s)
		}
	}
}

// P11.1: the example of the chapter, and packets whose words were written down by hand.
func TestWordsByHand(t *testing.T) {
	holdSteps(t, api.Packet{Src: 1, Dst: 2, Seq: 3, Data: "hi"},
		step{"a Head of 2 bytes", head(2), false, api.OK, 0, true},
		step{"a Tail of 2", tail("hi"), true, api.OK, 0, false},
		step{"the same packet again", head(2), false, api.OK, 0, true},
		step{"its Tail", tail("hi"), true, api.OK, 0, false},
	)
	holdSteps(t, api.Packet{Src: 4095, Dst: 4095, Seq: 65535},
		step{"a Head of no bytes", headWord(4095, 4095, 65535, 0, false, false), false, api.OK, 0, true},
		step{"a Tail of none", tail(""), true, api.OK, 0, false},
	)
	holdSteps(t, api.Packet{Src: 1, Dst: 2, Seq: 3, Data: "abcdef\x00\xffijklm"},
		step{"a Head of 13 bytes", head(13), false, api.OK, 0, true},
		step{"a Body", body("abcdef"), false, api.OK, 6, true},
		step{"a Body with bytes that are no text", body("\x00\xffijkl"), false, api.OK, 12, true},
		step{"a Tail of one byte", tail("m"), true, api.OK, 0, false},
	)
	// That a Body may not have the last bytes, the chapter doesn't say.
	holdSteps(t, api.Packet{Src: 1, Dst: 2, Seq: 3, Data: "abcdef"},
		step{"a Head of 6 bytes", head(6), false, api.OK, 0, true},
		step{"a Body of all", body("abcdef"), false, api.OK, 6, true},
		step{"a Tail of none", tail(""), true, api.OK, 0, false},
	)
}

// P11.1: a Head's More and Cast are nothing that a packet has.
func TestMoreAndCast(t *testing.T) {
	for _, more := range []bool{false, true} {
		for _, cast := range []bool{false, true} {
			holdSteps(t, api.Packet{Src: 9, Dst: 8, Seq: 7, Data: "x"},
				step{"a Head", headWord(9, 8, 7, 1, more, cast), false, api.OK, 0, true},
				step{"another one behind it", headWord(9, 5, 7, 1, more, cast), false, api.ErrState, 0, true},
				step{"a Tail", tail("x"), true, api.OK, 0, false},
			)
		}
	}
}

// P11.1, and R3: a word that doesn't fit what is begun is refused, and the packet goes on; but of a wrong Tail it ends.
func TestRefusedWords(t *testing.T) {
	none, broken := bits.Seal(0), tail("gh")^1<<56
	holdSteps(t, api.Packet{Src: 1, Dst: 2, Seq: 3, Data: "abcdefgh"},
		step{"a Body where none has begun", body("abcdef"), false, api.ErrState, 0, false},
		step{"a Tail where none has begun", tail("hi"), false, api.ErrState, 0, false},
		step{"a Tail of no bytes where none has begun", tail(""), false, api.ErrState, 0, false},
		step{"a word of no kind", none, false, api.ErrForm, 0, false},
		step{"a wrong check", broken, false, api.ErrSum, 0, false},
		step{"a Head whose check is wrong", head(8) ^ 1<<60, false, api.ErrSum, 0, false},
		step{"a Head", head(8), false, api.OK, 0, true},
		step{"another Head", headWord(4, 5, 6, 2, false, false), false, api.ErrState, 0, true},
		step{"the same Head", head(8), false, api.ErrState, 0, true},
		step{"a Head whose check is wrong", head(8) ^ 1<<60, false, api.ErrSum, 0, true},
		step{"a Head that may not be", head(65), false, api.ErrForm, 0, true},
		step{"a Body", body("abcdef"), false, api.OK, 6, true},
		step{"a Head behind it", head(8), false, api.ErrState, 6, true},
		step{"a Body too many", body("abcdef"), false, api.ErrSize, 6, true},
		step{"a Body too many whose check is wrong", body("abcdef") ^ 1<<60, false, api.ErrSum, 6, true},
		step{"a Body of 5 bytes", body("abcde"), false, api.ErrForm, 6, true},
		step{"a Tail of 7 bytes", bits.Seal(3 + 7<<2), false, api.ErrForm, 6, true},
		step{"a word of no kind", none, false, api.ErrForm, 6, true},
		step{"a wrong check", broken, false, api.ErrSum, 6, true},
		step{"a Tail", tail("gh"), true, api.OK, 0, false},
		step{"the same Tail", tail("gh"), false, api.ErrState, 0, false},
		step{"a Head again", head(8), false, api.OK, 0, true},
		step{"a Body again", body("abcdef"), false, api.OK, 6, true},
		step{"a Tail of a byte too few", tail("g"), false, api.ErrSize, 0, false},
		step{"the Tail that it should have been", tail("gh"), false, api.ErrState, 0, false},
		step{"a Head of 2", head(2), false, api.OK, 0, true},
		step{"a Tail of a byte too many", tail("ghi"), false, api.ErrSize, 0, false},
		step{"a Body behind it", body("abcdef"), false, api.ErrState, 0, false},
		step{"a Head of none", head(0), false, api.OK, 0, true},
		step{"a Body where no byte is to come", body("abcdef"), false, api.ErrSize, 0, true},
		step{"a Tail of one", tail("a"), false, api.ErrSize, 0, false},
		step{"a Head of one", head(1), false, api.OK, 0, true},
		step{"a Tail of none", tail(""), false, api.ErrSize, 0, false},
		step{"the packet at last", head(8), false, api.OK, 0, true},
		step{"its Body", body("abcdef"), false, api.OK, 6, true},
		step{"its Tail", tail("gh"), true, api.OK, 0, false},
	)
}

// P11.1: each Len against each number of bytes that come, with Bodies past it, and none but a Tail.
func TestEachLenAndNumberOfBytes(t *testing.T) {
	d := draw(1)
	for long := range 65 {
		for bodies := range 13 {
			for last := range 7 {
				words := []uint64{head(long)}
				for range bodies {
					words = append(words, body(d.text(6)))
				}
				words = append(words, tail(d.text(last)))
				hold(t, words)
				if packets, n := All(words); len(packets) == 1 != (bodies*6+last == long) || n > len(words) {
					t.Fatalf("Len %d, %d Bodies, a Tail of %d: %+v, %d", long, bodies, last, packets, n)
				}
				hold(t, append(words, wordsOf(d.packet(long))...))
			}
		}
	}
}

// P11.1: the greatest numbers of a Head and past them.
func TestHeadsAtTheirBounds(t *testing.T) {
	for _, node := range []int{0, 1, 4094, 4095} {
		for _, seq := range []int{0, 1, 65534, 65535} {
			p := api.Packet{Src: node, Dst: 4095 - node, Seq: seq, Data: strings.Repeat("\xff", 64)}
			if l, n := All(wordsOf(p)); len(l) != 1 || n != 12 || l[0] != p {
				t.Errorf("%+v: %+v, %d", p, l, n)
			}
		}
	}
	for bytes := 65; bytes < 128; bytes++ {
		hold(t, []uint64{head(bytes), tail("")})
		if p, ok, e := New().Take(head(bytes)); p != (api.Packet{}) || ok || e != api.ErrForm {
			t.Errorf("a Head of %d bytes: %+v, %v, error %d", bytes, p, ok, e)
		}
	}
}

// someWords are such as are packets' in some rows, and such as are none's.
func someWords() []uint64 {
	words := []uint64{
		0, 1, math.MaxUint64, bits.Seal(0), bits.Seal(1 << 51), head(65), body("abcde"), head(6) ^ 1, body("abcdef") ^ 1<<63, tail("a") ^ 1<<56,
		body("abcdef"), body("ghijkl"), tail(""), tail("a"), tail("ab"), tail("mnopqr"),
	}
	for _, bytes := range []int{0, 1, 2, 6, 7, 12, 18} {
		words = append(words, head(bytes))
	}
	return append(words, headWord(4095, 0, 65535, 7, true, true), headWord(0, 7, 0, 8, false, true), headWord(5, 5, 5, 64, true, false))
}

// P11.1: all rows of up to three of some words, and many longer ones.
func TestManyRowsOfWords(t *testing.T) {
	some := someWords()
	hold(t, nil)
	for _, a := range some {
		hold(t, []uint64{a})
		for _, b := range some {
			hold(t, []uint64{a, b})
			for _, c := range some {
				hold(t, []uint64{a, b, c})
			}
		}
	}
	d := draw(2)
	for range 50000 {
		row := make([]uint64, 4+d.below(12))
		for i := range row {
			row[i] = some[d.below(len(some))]
		}
		hold(t, row)
	}
}

// P11.1: words of any bits, with a right check and without, at any place of a packet.
func TestWordsOfAnyBits(t *testing.T) {
	d := draw(3)
	for range 20000 {
		words := wordsOf(d.packet(d.below(65)))
		for range 1 + d.below(3) {
			word := d.word()
			switch d.below(4) {
			case 0:
				word = bits.Seal(word & (1<<51 - 1))
			case 1:
				word = bits.Seal(word)
			case 2:
				word = dataWord(uint64(d.below(4)), d.text(d.below(7)))
			}
			words = slices.Insert(words, d.below(len(words)+1), word)
		}
		hold(t, words)
	}
}

// P11.1: a packet's words of which one is left out, comes twice, or changes its place; and with any bit turned.
func TestTurnedWords(t *testing.T) {
	d := draw(4)
	for _, bytes := range []int{0, 1, 6, 7, 12, 13, 64} {
		words := wordsOf(d.packet(bytes))
		behind := wordsOf(d.packet(bytes))
		for i, word := range words {
			hold(t, words[:i])
			hold(t, slices.Concat(words[i:], behind))
			hold(t, slices.Concat(words[:i], words[i+1:], behind))
			hold(t, slices.Concat(words[:i], []uint64{word}, words[i:], behind))
			turned := slices.Concat(words, behind)
			for k := range turned {
				turned[i], turned[k] = turned[k], turned[i]
				hold(t, turned)
				turned[i], turned[k] = turned[k], turned[i]
			}
			for at := range 64 {
				turned[i] = word ^ 1<<at
				hold(t, turned)
				if l, n := All(turned); len(l) != 0 || n != i {
					t.Fatalf("the word %d with the bit %d turned: %+v, %d", i, at, l, n)
				}
				turned[i] = bits.Seal(word ^ 1<<at)
				hold(t, turned)
			}
		}
	}
}

// P11.2: the words of packets, one behind the other, are put together as these, each once, in their row: one by one, and by All.
func TestPacketsOneBehindTheOther(t *testing.T) {
	d := draw(5)
	for range 300 {
		var want []api.Packet
		var words []uint64
		for range d.below(30) {
			p := d.packet(d.below(65))
			if len(want) != 0 && d.below(4) == 0 {
				p = want[len(want)-1] // the same one twice is told twice
			}
			want = append(want, p)
			words = append(words, wordsOf(p)...)
		}
		hold(t, words)
		if l, n := All(words); !slices.Equal(l, want) || n != len(words) {
			t.Fatalf("All: %+v, %d, want %+v, %d", l, n, want, len(words))
		}
	}
	for bytes := range 65 {
		p, q := d.packet(bytes), d.packet(64-bytes)
		words := slices.Concat(wordsOf(p), wordsOf(q), wordsOf(p))
		if l, n := All(words); !slices.Equal(l, []api.Packet{p, q, p}) || n != len(words) {
			t.Fatalf("%d bytes: %+v, %d", bytes, l, n)
		}
	}
}

// P11.2: what layer 10 cuts for one node is put together as layer 10 says.
func TestWhatLayer10Cuts(t *testing.T) {
	d := draw(6)
	var words []uint64
	var want []api.Packet
	for n := range 650 {
		cast := d.below(2) == 0
		p := cut.Parcel{Src: d.below(4096), Cast: cast, Heads: []cut.To{{Node: d.below(4096), Seq: d.below(65536)}}, Data: d.text(n % 65)}
		l, e := cut.Words(p)
		if e != api.OK {
			t.Fatalf("%+v: error %d", p, e)
		}
		words = append(words, l...)
		want = append(want, cut.Packets(p)...)
	}
	if l, n := All(words); !slices.Equal(l, want) || n != len(words) {
		t.Fatalf("%d packets, %d words, want %d, %d", len(l), n, len(want), len(words))
	}
}

// P11.1: words are taken up to the first error; those of a packet that isn't whole count, too.
func TestAll(t *testing.T) {
	six, end := body("abcdef"), tail("gh")
	p := api.Packet{Src: 1, Dst: 2, Seq: 3, Data: "abcdefgh"}
	for _, x := range []struct {
		why   string
		words []uint64
		many  int
		taken int
	}{
		{"no words", nil, 0, 0},
		{"no words of a list", []uint64{}, 0, 0},
		{"a Head", []uint64{head(8)}, 0, 1},
		{"a Head and a Body", []uint64{head(8), six}, 0, 2},
		{"a packet", []uint64{head(8), six, end}, 1, 3},
		{"a packet and a Head", []uint64{head(8), six, end, head(8)}, 1, 4},
		{"a packet and two Heads", []uint64{head(8), six, end, head(8), head(8)}, 1, 4},
		{"two packets", []uint64{head(8), six, end, head(8), six, end}, 2, 6},
		{"a Body first", []uint64{six, head(8), six, end}, 0, 0},
		{"a Tail first", []uint64{end, head(8), six, end}, 0, 0},
		{"a Body too many, and a right Tail", []uint64{head(8), six, six, end, head(8), six, end}, 0, 2},
		{"a Tail too short, and a packet", []uint64{head(8), end, head(8), six, end}, 0, 1},
		{"a packet, a wrong check, and a packet", []uint64{head(8), six, end, 0, head(8), six, end}, 1, 3},
	} {
		hold(t, x.words)
		if l, n := All(x.words); len(l) != x.many || n != x.taken || slices.ContainsFunc(l, func(q api.Packet) bool { return q != p }) {
			t.Errorf("%s: %+v, %d, want %d packets, %d", x.why, l, n, x.many, x.taken)
		}
	}
}

// P11.1, and T0: very many words are taken to their end.
func TestVeryManyWords(t *testing.T) {
	p := api.Packet{Src: 1, Dst: 2, Seq: 3, Data: strings.Repeat("x", 64)}
	words := slices.Repeat(wordsOf(p), 20000)
	if l, n := All(words); len(l) != 20000 || n != len(words) || slices.ContainsFunc(l, func(q api.Packet) bool { return q != p }) {
		t.Errorf("%d packets, %d words", len(l), n)
	}
	j := New()
	j.Take(head(64))
	for i := range 200000 {
		_, ok, e := j.Take(body("abcdef"))
		if isRoom := i < 10; ok || (e == api.OK) != isRoom || j.Has() != min(6*i+6, 60) {
			t.Fatalf("the Body %d: %v, error %d, Has %d", i, ok, e, j.Has())
		}
	}
}

// P11.1, and R7: of nil, whatever word comes.
func TestNil(t *testing.T) {
	var j *Join
	for _, word := range someWords() {
		if p, ok, e := j.Take(word); p != (api.Packet{}) || ok || e != api.ErrArg {
			t.Errorf("Take(%#x) of nil: %+v, %v, error %d", word, p, ok, e)
		}
	}
	if j.Begun() || j.Has() != 0 {
		t.Errorf("of nil Begun is %v, Has is %d", j.Begun(), j.Has())
	}
}

// P11.1: of a new one nothing is begun, whatever others were handed, and two don't meddle with one another; asking changes nothing.
func TestEachIsItsOwn(t *testing.T) {
	a, b := New(), New()
	if a == nil || b == nil || a == b || a.Begun() || a.Has() != 0 {
		t.Fatalf("new ones: %p, %p", a, b)
	}
	a.Take(head(8))
	b.Take(headWord(7, 8, 9, 2, false, false))
	a.Take(body("abcdef"))
	for range 3 {
		if c := New(); !a.Begun() || a.Has() != 6 || !b.Begun() || b.Has() != 0 || c.Begun() || c.Has() != 0 {
			t.Fatalf("Begun %v, %v, %v, Has %d, %d, %d", a.Begun(), b.Begun(), c.Begun(), a.Has(), b.Has(), c.Has())
		}
	}
	q, isB, _ := b.Take(tail("xy"))
	p, isA, _ := a.Take(tail("gh"))
	if !isA || !isB || p != (api.Packet{Src: 1, Dst: 2, Seq: 3, Data: "abcdefgh"}) || q != (api.Packet{Src: 7, Dst: 8, Seq: 9, Data: "xy"}) {
		t.Errorf("%+v, %v, %+v, %v", p, isA, q, isB)
	}
}

// P11.1, and R4, R6: what is handed in is as it was, and an answer is new memory each time.
func TestListsAreNotTurned(t *testing.T) {
	p, q := api.Packet{Src: 1, Dst: 2, Seq: 3, Data: "abcdefgh"}, api.Packet{Src: 4, Dst: 5, Seq: 6}
	words := slices.Concat(wordsOf(p), wordsOf(q))
	before := slices.Clone(words)
	l, _ := All(words)
	again, _ := All(words)
	l[0], l[1] = q, q
	if third, n := All(words); !slices.Equal(again, []api.Packet{p, q}) || !slices.Equal(third, again) || n != len(words) {
		t.Errorf("%+v, %+v, %d", again, third, n)
	}
	if !slices.Equal(words, before) {
		t.Errorf("turned: %#x", words)
	}
	clear(words)
	if again[0] != p || again[1] != q {
		t.Errorf("kept: %+v", again)
	}
}
