package cut

import (
	"math"
	"slices"
	"strings"
	"testing"

	"reticule/api"
	"reticule/bits"
	"reticule/flit"
	"reticule/walk"
)

// draw makes numbers in a row that is always the same.
type draw uint64

func (d *draw) below(n int) int {
	*d = *d*6364136223846793005 + 1442695040888963407
	return int(uint64(*d) >> 33 % uint64(n))
}

// text tells so many bytes, any of them, such as are no text among them.
func (d *draw) text(n int) string {
	l := make([]byte, n)
	for i := range l {
		l[i] = byte(d.below(256))
	}
	return string(l)
}

// heads tells so many Heads that may be.
func (d *draw) heads(n int) []To {
	l := make([]To, n)
	for i := range l {
		l[i] = To{d.below(4096), d.below(65536)}
	}
	return l
}

func headWord(src, dst, seq, bytes int, more, cast bool) uint64 {
	word := 1 + uint64(src)<<2 + uint64(dst)<<14 + uint64(seq)<<26 + uint64(bytes)<<42
	if more {
		word += 1 << 49
	}
	if cast {
		word += 1 << 50
	}
	return bits.Seal(word)
}

func dataWord(kind uint64, data string) uint64 {
	word := kind + uint64(len(data))<<2
	for i := range len(data) {
		word += uint64(data[i]) << (5 + 8*i)
	}
	return bits.Seal(word)
}

func body(data string) uint64 { return dataWord(2, data) }

func tail(data string) uint64 { return dataWord(3, data) }

// mayBe is what the document says a parcel may be, one by one.
func mayBe(p Parcel) bool {
	isNode := func(n int) bool { return 0 <= n && n <= 4095 }
	isRight := isNode(p.Src) && len(p.Heads) >= 1 && len(p.Heads) <= 4096 && (p.Cast || len(p.Heads) == 1) && len(p.Data) <= 64
	for _, to := range p.Heads {
		isRight = isRight && isNode(to.Node) && 0 <= to.Seq && to.Seq <= 65535
	}
	return isRight
}

// wantWords puts a parcel's words one behind the other; it may be.
func wantWords(p Parcel) []uint64 {
	var l []uint64
	for i, to := range p.Heads {
		l = append(l, headWord(p.Src, to.Node, to.Seq, len(p.Data), i+1 != len(p.Heads), p.Cast))
	}
	last := 0 // where the Tail's bytes begin
	for last+6 < len(p.Data) {
		l = append(l, body(p.Data[last:last+6]))
		last += 6
	}
	return append(l, tail(p.Data[last:]))
}

// wantRead goes through words one by one, in the row in which a parcel's must come.
func wantRead(words []uint64) (Parcel, api.Errno) {
	var flits []api.Flit
	for _, word := range words {
		f, e := flit.Read(word)
		if e != api.OK {
			return Parcel{}, e
		}
		flits = append(flits, f)
	}
	if len(flits) == 0 || flits[0].Kind != api.Head {
		return Parcel{}, api.ErrForm
	}
	first := flits[0]
	p := Parcel{Src: first.Src, Cast: first.Cast}
	for isMore := true; isMore; flits = flits[1:] {
		if len(flits) == 0 {
			return Parcel{}, api.ErrForm
		}
		f := flits[0]
		if f.Kind != api.Head || f.Src != first.Src || f.Cast != first.Cast || f.Len != first.Len {
			return Parcel{}, api.ErrForm
		}
		p.Heads = append(p.Heads, To{f.Dst, f.Seq})
		isMore = f.More
	}
	for i, f := range flits {
		kind, size := api.Body, 6
		if i == len(flits)-1 {
			kind, size = api.Tail, first.Len-6*i
		}
		if f.Kind != kind || len(f.Data) != size {
			return Parcel{}, api.ErrForm
		}
		p.Data += f.Data
	}
	isWhole := len(flits) != 0 && len(p.Data) == first.Len && (first.Len == 0 || len(flits) == (first.Len+5)/6)
	if !isWhole || len(p.Heads) > 4096 || !p.Cast && len(p.Heads) != 1 {
		return Parcel{}, api.ErrForm
	}
	return p, api.OK
}

func isAlike(a, b Parcel) bool {
	return a.Src == b.Src && a.Cast == b.Cast && a.Data == b.Data && slices.Equal(a.Heads, b.Heads)
}

// short tells a parcel in few words.
func short(p Parcel) Parcel {
	p.Heads, p.Data = p.Heads[:min(len(p.Heads), 3)], p.Data[:min(len(p.Data), 80)]
	return p
}

// hold asks all calls of a parcel, and holds their answers against the document.
func hold(t *testing.T, p Parcel) {
	t.Helper()
	if Right(p) != mayBe(p) {
		t.Fatalf("Right(%+v, %d Heads): %v", short(p), len(p.Heads), !mayBe(p))
	}
	words, e := Words(p)
	want, we := []uint64(nil), api.ErrArg
	switch {
	case len(p.Data) > 64:
		we = api.ErrSize
	case mayBe(p):
		want, we = wantWords(p), api.OK
	}
	if !slices.Equal(words, want) || e != we {
		t.Fatalf("Words(%+v, %d Heads): %d words, error %d, want %d words, error %d", short(p), len(p.Heads), len(words), e, len(want), we)
	}
	if we == api.OK {
		holdWords(t, words)
		if q, e := Read(words); !isAlike(p, q) || e != api.OK || !Same(p, q) {
			t.Fatalf("Read of the words of %+v: %+v, error %d", short(p), short(q), e)
		}
	}
}

func holdWords(t *testing.T, words []uint64) {
	t.Helper()
	want, we := wantRead(words)
	if p, e := Read(words); !isAlike(p, want) || e != we {
		t.Fatalf("Read(%#x): %+v, error %d, want %+v, error %d", words[:min(len(words), 16)], short(p), e, short(want), we)
	}
}

// refused holds that these words are told this error, and no parcel.
func refused(t *testing.T, why string, want api.Errno, words ...uint64) {
	t.Helper()
	if p, e := Read(words); !isAlike(p, Parcel{}) || e != want {
		t.Errorf("%s: %+v, error %d, want %d", why, short(p), e, want)
	}
}

// P10.1: words that were written down by hand.
func TestWordsByHand(t *testing.T) {
	one := []To{{9, 5}}
	for _, x := range []struct {
		p    Parcel
		want []uint64
	}{
		{Parcel{3, false, one, "abcdefg"}, []uint64{headWord(3, 9, 5, 7, false, false), body("abcdef"), tail("g")}}, // the example of the chapter
		{Parcel{3, false, one, ""}, []uint64{headWord(3, 9, 5, 0, false, false), tail("")}},
		{Parcel{3, false, one, "a"}, []uint64{headWord(3, 9, 5, 1, false, false), tail("a")}},
		{Parcel{3, false, one, "abcdef"}, []uint64{headWord(3, 9, 5, 6, false, false), tail("abcdef")}},
		{Parcel{3, false, one, "abcdefghijkl"}, []uint64{headWord(3, 9, 5, 12, false, false), body("abcdef"), tail("ghijkl")}},
		{Parcel{3, false, one, "abcdefghijklm"}, []uint64{headWord(3, 9, 5, 13, false, false), body("abcdef"), body("ghijkl"), tail("m")}},
		{Parcel{3, true, one, "hi"}, []uint64{headWord(3, 9, 5, 2, false, true), tail("hi")}},
		{Parcel{3, true, []To{{9, 5}, {2, 7}}, "hi"}, []uint64{headWord(3, 9, 5, 2, true, true), headWord(3, 2, 7, 2, false, true), tail("hi")}},
		{Parcel{4095, true, []To{{0, 0}, {4095, 65535}, {3, 1}}, ""}, []uint64{headWord(4095, 0, 0, 0, true, true), headWord(4095, 4095, 65535, 0, true, true), headWord(4095, 3, 1, 0, false, true), tail("")}},
		{Parcel{0, false, []To{{0, 0}}, "\x00\xff\x00\x00\x00\x00\x00"}, []uint64{headWord(0, 0, 0, 7, false, false), body("\x00\xff\x00\x00\x00\x00"), tail("\x00")}},
	} {
		if words, e := Words(x.p); !slices.Equal(words, x.want) || e != api.OK {
			t.Errorf("Words(%+v): %#x, error %d, want %#x", x.p, words, e, x.want)
		}
		hold(t, x.p)
	}
}

// P10.1, P10.2: each number of bytes, with one Head and with several, to itself as well; as many words as layer 9 says.
func TestEachNumberOfBytes(t *testing.T) {
	d := draw(1)
	for n := range 65 {
		for many := 1; many <= 5; many++ {
			p := Parcel{Src: d.below(4096), Cast: true, Heads: d.heads(many), Data: d.text(n)}
			hold(t, p)
			if words, _ := Words(p); len(words) != walk.Words(many, n) {
				t.Errorf("%d Heads, %d bytes: %d words, layer 9 says %d", many, n, len(words), walk.Words(many, n))
			}
			hold(t, Parcel{Src: p.Src, Heads: p.Heads[:1], Data: p.Data})
			hold(t, Parcel{Src: p.Heads[0].Node, Cast: true, Heads: slices.Repeat(p.Heads[:1], many), Data: p.Data})
			hold(t, Parcel{Src: p.Src, Cast: true, Heads: p.Heads, Data: strings.Repeat("\x00", n)})
		}
	}
}

// P10.1: how many Heads there are, at and past the bounds, with Cast and without.
func TestNumbersOfHeads(t *testing.T) {
	d := draw(2)
	for _, cast := range []bool{false, true} {
		for _, many := range []int{0, 1, 2, 3, 100, 4094, 4095, 4096, 4097, 5000} {
			for _, n := range []int{0, 6, 7, 64, 65} {
				hold(t, Parcel{Src: 7, Cast: cast, Heads: d.heads(many), Data: d.text(n)})
			}
		}
		hold(t, Parcel{Src: 7, Cast: cast, Heads: []To{}})
		if p := (Parcel{Cast: cast, Heads: make([]To, 4096)}); Right(p) != cast {
			t.Errorf("4096 Heads, Cast %v: Right is %v", cast, !cast)
		}
		if p := (Parcel{Cast: cast, Heads: make([]To, 4097)}); Right(p) {
			t.Errorf("4097 Heads, Cast %v: Right", cast)
		}
	}
}

// P10.1: each number at and past its bounds, at each place of the Heads.
func TestNumbersAtTheirBounds(t *testing.T) {
	edges := []int{
		math.MinInt, math.MinInt32, -65536, -4096, -1, 0, 1, 63, 64, 4095, 4096, 4097, 8192, 65535, 65536, 65537, 1 << 31, 1 << 32, 1<<32 + 1, math.MaxInt,
	}
	for _, n := range edges {
		for _, long := range []int{0, 7, 64, 65, 1000} {
			data := strings.Repeat("x", long)
			for _, many := range []int{1, 2, 5} {
				hold(t, Parcel{Src: n, Cast: true, Heads: make([]To, many), Data: data})
				for place := range many {
					heads := slices.Repeat([]To{{1, 2}}, many)
					heads[place] = To{n, 2}
					hold(t, Parcel{Src: 3, Cast: true, Heads: heads, Data: data})
					hold(t, Parcel{Src: 3, Heads: heads, Data: data})
					heads[place] = To{1, n}
					hold(t, Parcel{Src: 3, Cast: true, Heads: heads, Data: data})
					hold(t, Parcel{Src: 3, Heads: heads, Data: data})
				}
			}
		}
	}
}

// P10.1, and R1: ErrSize comes ahead of ErrArg, whatever else may not be.
func TestTooLongComesFirst(t *testing.T) {
	long := strings.Repeat("x", 65)
	for _, x := range []struct {
		p    Parcel
		want api.Errno
	}{
		{Parcel{}, api.ErrArg},
		{Parcel{Data: long}, api.ErrSize},
		{Parcel{Src: -1, Heads: []To{{}}, Data: long}, api.ErrSize},
		{Parcel{Heads: []To{{4096, 65536}, {}}, Data: long}, api.ErrSize},
		{Parcel{Heads: []To{{}}, Data: long}, api.ErrSize},
		{Parcel{Heads: []To{{}}, Data: strings.Repeat("x", 1<<20)}, api.ErrSize},
		{Parcel{Src: -1, Heads: []To{{}}, Data: long[1:]}, api.ErrArg},
		{Parcel{Src: 4096, Heads: []To{{}}}, api.ErrArg},
		{Parcel{Heads: []To{{4096, 0}}}, api.ErrArg},
		{Parcel{Heads: []To{{0, 65536}}}, api.ErrArg},
		{Parcel{Heads: []To{{}, {}}}, api.ErrArg},
		{Parcel{Cast: true}, api.ErrArg},
	} {
		if words, e := Words(x.p); len(words) != 0 || e != x.want || Right(x.p) {
			t.Errorf("Words(%+v): %#x, error %d, want %d", short(x.p), words, e, x.want)
		}
	}
}

// P10.1: words that are flits', but no parcel's.
func TestWordsThatAreNoParcels(t *testing.T) {
	h := func(bytes int) uint64 { return headWord(3, 9, 5, bytes, false, false) }
	more := headWord(3, 9, 5, 2, true, true)
	last := headWord(3, 2, 7, 2, false, true)
	six, end := body("abcdef"), tail("hi")
	for _, x := range []struct {
		why   string
		words []uint64
	}{
		{"no words", nil},
		{"a Head alone", []uint64{h(0)}},
		{"a Head of 2 bytes alone", []uint64{h(2)}},
		{"a Tail alone", []uint64{tail("")}},
		{"a Body alone", []uint64{six}},
		{"data without a Head", []uint64{six, tail("g")}},
		{"the Tail first", []uint64{end, h(2)}},
		{"no Tail", []uint64{h(6), six}},
		{"no Tail of 12 bytes", []uint64{h(12), six, six}},
		{"a Tail of no bytes behind a Body", []uint64{h(6), six, tail("")}},
		{"a Tail of no bytes behind two", []uint64{h(12), six, six, tail("")}},
		{"the Body behind the Tail", []uint64{h(7), tail("g"), six}},
		{"two Tails", []uint64{h(12), tail("abcdef"), tail("ghijkl")}},
		{"a Tail again", []uint64{h(2), end, end}},
		{"a Tail of no bytes again", []uint64{h(0), tail(""), tail("")}},
		{"a Tail of no bytes more", []uint64{h(2), end, tail("")}},
		{"fewer bytes than Len", []uint64{h(3), end}},
		{"more bytes than Len", []uint64{h(1), end}},
		{"no bytes of one", []uint64{h(1), tail("")}},
		{"one byte of none", []uint64{h(0), tail("a")}},
		{"a Body too few", []uint64{h(13), six, tail("m")}},
		{"a Body too many", []uint64{h(7), six, six, tail("m")}},
		{"more than 64 bytes", append(append([]uint64{h(64)}, slices.Repeat([]uint64{six}, 10)...), tail("abcde"))},
		{"another parcel behind", []uint64{h(2), end, h(2), end}},
		{"a Head behind", []uint64{h(2), end, h(2)}},
		{"a Head between", []uint64{h(7), six, h(7), tail("g")}},
		{"two Heads, neither has More", []uint64{last, last, end}},
		{"two Heads, both have More", []uint64{more, more, end}},
		{"More, and none follows", []uint64{more, end}},
		{"More without Cast, and none follows", []uint64{headWord(3, 9, 5, 2, true, false), end}},
		{"two Heads without Cast", []uint64{headWord(3, 9, 5, 2, true, false), h(2), end}},
		{"the last Head first", []uint64{last, more, end}},
		{"Cast of the first Head alone", []uint64{more, headWord(3, 2, 7, 2, false, false), end}},
		{"Cast of the last Head alone", []uint64{headWord(3, 9, 5, 2, true, false), last, end}},
		{"another Src", []uint64{more, headWord(4, 2, 7, 2, false, true), end}},
		{"the first Head's Src is another", []uint64{headWord(4, 9, 5, 2, true, true), last, end}},
		{"another Len", []uint64{more, headWord(3, 2, 7, 3, false, true), end}},
		{"the first Head's Len is another", []uint64{headWord(3, 9, 5, 3, true, true), last, end}},
	} {
		refused(t, x.why, api.ErrForm, x.words...)
		holdWords(t, x.words)
	}
}

// P10.1: 4096 Heads are read, and one more isn't.
func TestReadOfManyHeads(t *testing.T) {
	heads := slices.Repeat([]uint64{headWord(3, 9, 5, 1, true, true)}, 4097)
	behind := []uint64{headWord(3, 2, 7, 1, false, true), tail("a")}
	p, e := Read(slices.Concat(heads[:4095], behind))
	if e != api.OK || len(p.Heads) != 4096 || p.Heads[4094] != (To{9, 5}) || p.Heads[4095] != (To{2, 7}) || p.Data != "a" {
		t.Errorf("4096 Heads: %d, error %d", len(p.Heads), e)
	}
	for many := 4096; many <= 4097; many++ {
		refused(t, "too many Heads", api.ErrForm, slices.Concat(heads[:many], behind)...)
	}
}

// P10.1: the first word that is no flit's tells the error, wherever it stands, ahead of what is wrong with all of them.
func TestErrorsOfWords(t *testing.T) {
	const unsealed = 1 << 56
	h, end, none := headWord(3, 9, 5, 2, false, false), tail("hi"), bits.Seal(0)
	broken := end ^ unsealed
	for _, x := range []struct {
		why   string
		want  api.Errno
		words []uint64
	}{
		{"a check that isn't right", api.ErrSum, []uint64{h ^ unsealed, end}},
		{"the last check isn't right", api.ErrSum, []uint64{h, broken}},
		{"a check that isn't right, alone", api.ErrSum, []uint64{broken}},
		{"no bits", api.ErrSum, []uint64{0}},
		{"a word of no kind", api.ErrForm, []uint64{none}},
		{"both: the check first", api.ErrSum, []uint64{h, broken, none}},
		{"both: the form first", api.ErrForm, []uint64{h, none, broken}},
		{"a check that isn't right behind a parcel", api.ErrSum, []uint64{h, end, broken}},
		{"a word of no kind behind a parcel", api.ErrForm, []uint64{h, end, none}},
		{"a check that isn't right behind what is no parcel's", api.ErrSum, []uint64{end, end, h, h, broken}},
		{"a check that isn't right behind too many Heads", api.ErrSum, append(slices.Repeat([]uint64{headWord(3, 9, 5, 1, true, true)}, 5000), broken)},
		{"a check that isn't right behind too many bytes", api.ErrSum, append(slices.Repeat([]uint64{body("abcdef")}, 5000), broken)},
	} {
		refused(t, x.why, x.want, x.words...)
	}
}

// P10.1, P10.2: words of a parcel of which one is left out, comes twice, changes its place, or is another one; and with any bit turned.
func TestTurnedWords(t *testing.T) {
	d := draw(3)
	for _, p := range []Parcel{
		{3, false, []To{{9, 5}}, ""}, {3, false, []To{{9, 5}}, "abcdef"}, {3, false, []To{{9, 5}}, "abcdefghijklm"}, {4095, false, []To{{4095, 65535}}, d.text(64)},
		{3, true, []To{{9, 5}}, "hi"}, {3, true, []To{{9, 5}, {2, 7}}, ""}, {3, true, []To{{9, 5}, {9, 5}, {9, 6}}, "abcdefg"}, {0, true, d.heads(20), d.text(20)},
	} {
		words := wantWords(p)
		for i, word := range words {
			holdWords(t, words[:i])
			holdWords(t, words[i:])
			holdWords(t, slices.Concat(words[:i], words[i+1:]))
			holdWords(t, slices.Insert(slices.Clone(words), i, word))
			turned := slices.Clone(words)
			for k, other := range words {
				turned[i], turned[k] = other, word
				holdWords(t, turned)
				turned[i], turned[k] = word, other
			}
			for at := range 64 {
				turned[i] = word ^ 1<<at
				refused(t, "a bit is turned", api.ErrSum, turned...)
				turned[i] = bits.Seal(word ^ 1<<at)
				holdWords(t, turned)
			}
		}
		holdWords(t, slices.Concat(words, words))
	}
}

// someWords are such as are parcels' in some rows.
func someWords() []uint64 {
	words := []uint64{body("abcdef"), tail(""), tail("a"), tail("ghijkl"), bits.Seal(0), 1}
	for _, bytes := range []int{0, 1, 6, 7, 12} {
		for _, more := range []bool{false, true} {
			for _, cast := range []bool{false, true} {
				words = append(words, headWord(0, 1, 2, bytes, more, cast))
			}
		}
	}
	return append(words, headWord(1, 1, 2, 7, true, true), headWord(1, 1, 2, 7, false, true))
}

// P10.1: all rows of up to three of some words, and many longer ones.
func TestManyRowsOfWords(t *testing.T) {
	some := someWords()
	for _, a := range some {
		holdWords(t, []uint64{a})
		for _, b := range some {
			holdWords(t, []uint64{a, b})
			for _, c := range some {
				holdWords(t, []uint64{a, b, c})
			}
		}
	}
	d := draw(4)
	for range 100000 {
		row := make([]uint64, 4+d.below(4))
		for i := range row {
			row[i] = some[d.below(len(some))]
		}
		holdWords(t, row)
	}
}

// P10.1, and T0: a list of very many words is read to its end.
func TestVeryManyWords(t *testing.T) {
	for _, word := range []uint64{body("abcdef"), tail(""), headWord(1, 2, 3, 4, true, true)} {
		words := slices.Repeat([]uint64{word}, 200000)
		refused(t, "very many", api.ErrForm, words...)
		words[len(words)-1] ^= 1 << 60
		refused(t, "very many, and one that is no flit's", api.ErrSum, words...)
	}
}

// P10.1, P10.2: many parcels, such as may be and such as may not.
func TestManyParcels(t *testing.T) {
	d := draw(5)
	for range 20000 {
		p := Parcel{Src: d.below(4098) - 1, Cast: d.below(4) != 0, Heads: d.heads(d.below(6)), Data: d.text(d.below(67))}
		if len(p.Heads) != 0 && d.below(4) == 0 {
			p.Heads[d.below(len(p.Heads))] = To{d.below(4100) - 2, d.below(65540) - 2}
		}
		hold(t, p)
	}
}

// P10.1: of each Head a packet, in their row, with all bytes.
func TestPackets(t *testing.T) {
	for _, x := range []struct {
		p    Parcel
		want []api.Packet
	}{
		{Parcel{}, nil},
		{Parcel{Src: 3, Cast: true, Data: "hi"}, nil},
		{Parcel{3, false, []To{{9, 5}}, ""}, []api.Packet{{Src: 3, Dst: 9, Seq: 5}}},
		{Parcel{3, true, []To{{9, 5}, {2, 7}, {3, 0}, {9, 5}}, "hi"}, []api.Packet{
			{Src: 3, Dst: 9, Seq: 5, Data: "hi"}, {Src: 3, Dst: 2, Seq: 7, Data: "hi"}, {Src: 3, Dst: 3, Data: "hi"}, {Src: 3, Dst: 9, Seq: 5, Data: "hi"},
		}},
	} {
		if l := Packets(x.p); !slices.Equal(l, x.want) {
			t.Errorf("Packets(%+v): %+v, want %+v", x.p, l, x.want)
		}
	}
	d := draw(6)
	p := Parcel{Src: 4095, Cast: true, Heads: d.heads(4096), Data: d.text(64)}
	l := Packets(p)
	if len(l) != 4096 {
		t.Fatalf("4096 Heads: %d packets", len(l))
	}
	for i, to := range p.Heads {
		if l[i] != (api.Packet{Src: 4095, Dst: to.Node, Seq: to.Seq, Data: p.Data}) {
			t.Fatalf("the packet %d: %+v", i, l[i])
		}
	}
}

// P10.1: parcels are the same if all of theirs is, may they be or not.
func TestSame(t *testing.T) {
	l := []Parcel{
		{}, {Src: 1}, {Src: -1}, {Src: 1 << 32}, {Cast: true}, {Data: "a"}, {Data: "\x00"}, {Data: "ab"}, {Data: strings.Repeat("x", 70)}, {Data: strings.Repeat("x", 69) + "y"},
		{Heads: []To{{}}}, {Heads: []To{{}, {}}}, {Heads: []To{{1, 0}}}, {Heads: []To{{0, 1}}}, {Heads: []To{{1, 2}, {3, 4}}}, {Heads: []To{{3, 4}, {1, 2}}}, {Heads: []To{{1, 2}, {3, 5}}}, {Heads: []To{{1, 2}, {4, 4}}},
		{3, false, []To{{9, 5}}, "hi"}, {3, true, []To{{9, 5}}, "hi"}, {4, true, []To{{9, 5}}, "hi"}, {3, true, []To{{9, 5}}, "ho"}, {3, true, []To{{9, 5}, {9, 5}}, "hi"},
	}
	for i, a := range l {
		for k, b := range l {
			b.Heads, b.Data = slices.Clone(b.Heads), strings.Clone(b.Data)
			if Same(a, b) != (i == k) {
				t.Errorf("Same(parcel %d, parcel %d): %v", i, k, i != k)
			}
		}
	}
	if !Same(Parcel{Src: 1, Heads: nil}, Parcel{Src: 1, Heads: []To{}}) || !Same(Parcel{Src: 1, Heads: []To{}}, Parcel{Src: 1, Heads: nil}) {
		t.Error("Same: without Heads, a list without any is another one than none")
	}
}

// P10.1, and R4, R6: what is handed in is as it was and isn't kept, and an answer is new memory each time.
func TestListsAreNotTurned(t *testing.T) {
	heads := []To{{9, 5}, {2, 7}, {8, 8}}
	p := Parcel{3, true, heads[:2], "abcdefg"}
	words, _ := Words(p)
	again, _ := Words(p)
	want := wantWords(p)
	words[0], words[3] = 0, 0
	if third, _ := Words(p); !slices.Equal(again, want) || !slices.Equal(third, want) {
		t.Errorf("Words: %#x, %#x, want %#x", again, third, want)
	}
	q, _ := Read(again)
	again[0], again[1] = 1, 2
	r, _ := Read(want)
	q.Heads[1] = To{}
	if s, _ := Read(want); !isAlike(r, p) || !isAlike(s, p) || !slices.Equal(want, wantWords(p)) {
		t.Errorf("Read: %+v, %+v, want %+v", r, s, p)
	}
	packets := Packets(p)
	packets[0].Dst = 1
	heads[1] = To{4, 4}
	if l := Packets(p); l[0].Dst != 9 || l[1].Dst != 4 || packets[1].Dst != 2 {
		t.Errorf("Packets: %+v, %+v", l, packets)
	}
	if !slices.Equal(heads, []To{{9, 5}, {4, 4}, {8, 8}}) {
		t.Errorf("turned: %+v", heads)
	}
}
