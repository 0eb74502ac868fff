package flit

import (
	"math"
	"strings"
	"testing"

	"reticule/api"
	"reticule/bits"
)

// edges are numbers within, at and past the bounds of all numbers of a flit, and such as are within them if they are cut to fewer bits.
var edges = []int{
	math.MinInt, math.MinInt32, -65536, -4096, -1, 0, 1, 2, 3, 6, 7, 63, 64, 65, 127, 128, 4095, 4096, 4097, 65535, 65536, 65537,
	1 << 31, 1<<32 - 1, 1 << 32, 1<<32 + 1, math.MaxInt,
}

// texts are of 0 to 8 bytes, and longer; of bytes that are no text as well.
var texts = []string{
	"", "\x00", "a", "ab", "abc", "\xff\xfe\xfd", "abcd", "abcde", "abcdef", "\x00\x00\x00\x00\x00\x00", "\xff\xff\xff\xff\xff\xff",
	"äöü", "äöüß", "abcdefg", "abcdefgh", "\x00\x00\x00\x00\x00\x00\x00", strings.Repeat("x", 64), strings.Repeat("x", 70), strings.Repeat("x", 70000),
}

// draw makes numbers in a row that is always the same.
type draw uint64

func (d *draw) next() uint64 {
	*d = *d*6364136223846793005 + 1442695040888963407
	z := uint64(*d)
	z = (z ^ z>>32) * 0xd6e8feb86659fd93
	return z ^ z>>32
}

func (d *draw) below(n int) int {
	return int(d.next() % uint64(n))
}

// mayBe is what the document says a flit may be, one by one.
func mayBe(f api.Flit) bool {
	bare := f.Src == 0 && f.Dst == 0 && f.Seq == 0 && f.Len == 0 && !f.More && !f.Cast
	switch f.Kind {
	case 1:
		return 0 <= f.Src && f.Src <= 4095 && 0 <= f.Dst && f.Dst <= 4095 &&
			0 <= f.Seq && f.Seq <= 65535 && 0 <= f.Len && f.Len <= 64 && len(f.Data) == 0
	case 2:
		return bare && len(f.Data) == 6
	case 3:
		return bare && len(f.Data) <= 6
	}
	return false
}

// wantWord adds a flit's numbers, each as often as its place counts.
func wantWord(f api.Flit) uint64 {
	word := uint64(f.Kind)
	if f.Kind == 1 {
		word += uint64(f.Src)<<2 + uint64(f.Dst)<<14 + uint64(f.Seq)<<26 + uint64(f.Len)<<42
		if f.More {
			word += 1 << 49
		}
		if f.Cast {
			word += 1 << 50
		}
		return bits.Seal(word)
	}
	word += uint64(len(f.Data)) << 2
	for i := range len(f.Data) {
		word += uint64(f.Data[i]) << (5 + 8*i)
	}
	return bits.Seal(word)
}

// hold asks all calls of a flit, and holds their answers against the document.
func hold(t *testing.T, f api.Flit) {
	t.Helper()
	want := mayBe(f)
	if Right(f) != want {
		t.Fatalf("Right(%+v): %v", f, !want)
	}
	w, e := Write(f)
	if !want {
		if w != 0 || e != api.ErrArg {
			t.Fatalf("Write(%+v): %#x, error %d", f, w, e)
		}
		return
	}
	if w != wantWord(f) || e != api.OK {
		t.Fatalf("Write(%+v): %#x, error %d, want %#x", f, w, e, wantWord(f))
	}
	if g, e := Read(w); g != f || e != api.OK || !Same(f, g) || Kind(w) != f.Kind {
		t.Fatalf("Read(%#x): %+v, error %d, want %+v; Kind %d", w, g, e, f, Kind(w))
	}
}

// P3.1: words that were written down by hand, ahead of their check.
func TestWordsByHand(t *testing.T) {
	for _, x := range []struct {
		f    api.Flit
		want uint64
	}{
		{api.Flit{Kind: 3}, 3}, // the example of the chapter
		{api.Flit{Kind: 1}, 1},
		{api.Flit{Kind: 1, Src: 1}, 0x5},
		{api.Flit{Kind: 1, Dst: 1}, 0x4001},
		{api.Flit{Kind: 1, Seq: 1}, 0x4000001},
		{api.Flit{Kind: 1, Len: 1}, 0x40000000001},
		{api.Flit{Kind: 1, More: true}, 0x2000000000001},
		{api.Flit{Kind: 1, Cast: true}, 0x4000000000001},
		{api.Flit{Kind: 1, Src: 4095, Dst: 4095, Seq: 65535, Len: 64, More: true, Cast: true}, 0x703ffffffffff - 2},
		{api.Flit{Kind: 2, Data: "\x01\x00\x00\x00\x00\x80"}, 2 + 6<<2 + 1<<5 + 0x80<<45},
		{api.Flit{Kind: 2, Data: "\x00\x00\x00\x00\x00\x00"}, 26},
		{api.Flit{Kind: 3, Data: "a"}, 3 + 1<<2 + 0x61<<5},
		{api.Flit{Kind: 3, Data: "\x00\x01"}, 3 + 2<<2 + 1<<13},
		{api.Flit{Kind: 3, Data: "\xff\xff\xff\xff\xff\xff"}, 1<<53 - 1 - 4},
	} {
		hold(t, x.f)
		if w, e := Write(x.f); w != bits.Seal(x.want) || e != api.OK {
			t.Errorf("Write(%+v): %#x, error %d, want %#x with its check", x.f, w, e, x.want)
		}
	}
}

// P3.1, P3.2: each number of a flit at and past its bounds, alone and beside others, of each kind and of such as are none.
func TestEachNumberAtItsBounds(t *testing.T) {
	for _, kind := range edges {
		for _, f := range []api.Flit{{}, {Src: 4095, Dst: 4095, Seq: 65535, Len: 64, More: true, Cast: true}, {Data: "abcdef"}, {Data: "ab"}} {
			f.Kind = kind
			hold(t, f)
			for _, n := range edges {
				for _, at := range []func(f *api.Flit) *int{
					func(f *api.Flit) *int { return &f.Src },
					func(f *api.Flit) *int { return &f.Dst },
					func(f *api.Flit) *int { return &f.Seq },
					func(f *api.Flit) *int { return &f.Len },
				} {
					g := f
					*at(&g) = n
					hold(t, g)
				}
			}
		}
	}
}

// P3.1, P3.2: data of each length, of each kind, alone and beside one thing more that isn't zero.
func TestDataOfEachLength(t *testing.T) {
	for kind := -1; kind <= 5; kind++ {
		for _, data := range texts {
			for _, f := range []api.Flit{{}, {Src: 1}, {Dst: 1}, {Seq: 1}, {Len: 1}, {Len: len(data)}, {More: true}, {Cast: true}} {
				f.Kind, f.Data = kind, data
				hold(t, f)
			}
		}
	}
}

// P3.1, P3.2: every node, every number, every length, and every byte at each place.
func TestEveryValueIsReadAsItWas(t *testing.T) {
	for n := -2; n <= 65538; n++ {
		hold(t, api.Flit{Kind: 1, Src: n, More: true})
		hold(t, api.Flit{Kind: 1, Dst: n, Cast: true})
		hold(t, api.Flit{Kind: 1, Seq: n})
		hold(t, api.Flit{Kind: 1, Len: n, More: true, Cast: true})
	}
	for long := 1; long <= 6; long++ {
		for place := range long {
			for b := range 256 {
				data := []byte("uvwxyz")[:long]
				data[place] = byte(b)
				hold(t, api.Flit{Kind: 3, Data: string(data)})
				if long == 6 {
					hold(t, api.Flit{Kind: 2, Data: string(data)})
				}
			}
		}
	}
}

// wantRead is what a word tells, as the document has it: the check, then the kind, the numbers, and no bit beyond the fields.
func wantRead(word uint64) (api.Flit, api.Errno) {
	low := word % (1 << 56)
	if bits.Seal(low) != word {
		return api.Flit{}, api.ErrSum
	}
	none := api.Flit{}
	f := api.Flit{Kind: int(low % 4)}
	switch f.Kind {
	case 0:
		return none, api.ErrForm
	case 1:
		f.Src, f.Dst, f.Seq = int(low>>2%4096), int(low>>14%4096), int(low>>26%65536)
		f.Len, f.More, f.Cast = int(low>>42%128), low>>49%2 == 1, low>>50%2 == 1
		if f.Len > 64 || low>>51 != 0 {
			return none, api.ErrForm
		}
		return f, api.OK
	}
	many := int(low >> 2 % 8)
	if many > 6 || f.Kind == 2 && many != 6 || low>>(5+8*many) != 0 {
		return none, api.ErrForm
	}
	for i := range many {
		f.Data += string([]byte{byte(low >> (5 + 8*i))})
	}
	return f, api.OK
}

func holdWord(t *testing.T, word uint64) {
	t.Helper()
	want, we := wantRead(word)
	f, e := Read(word)
	if f != want || e != we {
		t.Fatalf("Read(%#x): %+v, error %d, want %+v, error %d", word, f, e, want, we)
	}
	if Kind(word) != int(word%4) {
		t.Fatalf("Kind(%#x): %d", word, Kind(word))
	}
	if w, e := Write(f); we == api.OK && (w != word || e != api.OK) {
		t.Fatalf("Write(%+v): %#x, error %d, want %#x", f, w, e, word)
	}
}

// P3.1: words of each kind and each number of bytes, each with one bit more, sealed and not.
func TestWordsWithOneBitMore(t *testing.T) {
	for low := range uint64(32) {
		for _, word := range []uint64{low, low | 0x61<<5, low | (1<<53-1)&^31, low | (1<<51-1)&^31, low | (1<<56-1)&^31, low | 64<<42, low | 65<<42, low | 127<<42} {
			holdWord(t, word)
			holdWord(t, bits.Seal(word))
			for at := range 64 {
				more := word ^ 1<<at
				holdWord(t, more)
				holdWord(t, bits.Seal(more))
				holdWord(t, bits.Seal(word)^1<<at)
			}
		}
	}
}

// P3.1: what is no flit's, by the error that is told, the error of the check ahead of the other.
func TestWordsThatAreNone(t *testing.T) {
	for _, x := range []struct {
		word uint64
		why  string
	}{
		{0, "kind 0"},
		{4, "kind 0 with more"},
		{1 | 65<<42, "a Head of 65 bytes"},
		{1 | 127<<42, "a Head of 127 bytes"},
		{1 | 1<<51, "a Head with a bit beyond"},
		{1 | 1<<55, "a Head with the last bit beyond"},
		{2, "a Body of no bytes"},
		{2 | 5<<2, "a Body of 5 bytes"},
		{2 | 7<<2, "a Body of 7 bytes"},
		{2 | 6<<2 | 1<<53, "a Body with a bit beyond"},
		{2 | 6<<2 | 1<<55, "a Body with the last bit beyond"},
		{3 | 7<<2, "a Tail of 7 bytes"},
		{3 | 1<<5, "a Tail of no bytes with one"},
		{3 | 1<<2 | 1<<13, "a Tail of 1 byte with a second one"},
		{3 | 6<<2 | 1<<53, "a Tail of 6 bytes with a bit beyond"},
	} {
		sealed := bits.Seal(x.word)
		if f, e := Read(sealed); f != (api.Flit{}) || e != api.ErrForm {
			t.Errorf("%s: %+v, error %d", x.why, f, e)
		}
		if f, e := Read(sealed ^ 1<<56); f != (api.Flit{}) || e != api.ErrSum {
			t.Errorf("%s, with another check: %+v, error %d", x.why, f, e)
		}
	}
}

// P3.1: many words of all sorts: any bits, sealed, and such as are nearly a flit's.
func TestManyWords(t *testing.T) {
	d := draw(1)
	for range 100000 {
		word := d.next()
		holdWord(t, word)
		holdWord(t, bits.Seal(word))
		kind, many := uint64(d.below(4)), uint64(d.below(8))
		holdWord(t, bits.Seal(kind|many<<2|word%(1<<(8*many))<<5))
		holdWord(t, bits.Seal(1|word%(1<<51)&^3))
		holdWord(t, bits.Seal(2|6<<2|word%(1<<48)<<5))
	}
}

// P3.2: a word of which one byte is another one, whichever, is none's.
func TestAnotherByteIsNone(t *testing.T) {
	flits := []api.Flit{
		{Kind: 1}, {Kind: 1, Src: 4095, Dst: 4095, Seq: 65535, Len: 64, More: true, Cast: true}, {Kind: 1, Src: 5, Dst: 9, Seq: 300, Len: 7},
		{Kind: 2, Data: "abcdef"}, {Kind: 2, Data: "\x00\x00\x00\x00\x00\x00"}, {Kind: 2, Data: "\xff\xff\xff\xff\xff\xff"},
		{Kind: 3}, {Kind: 3, Data: "a"}, {Kind: 3, Data: "abcde"}, {Kind: 3, Data: "abcdef"},
	}
	for _, f := range flits {
		w, _ := Write(f)
		for at := 0; at < 64; at += 8 {
			for other := uint64(1); other < 256; other++ {
				word := w ^ other<<at
				if g, e := Read(word); g != (api.Flit{}) || e != api.ErrSum {
					t.Fatalf("%+v with another byte from the bit %d on: %+v, error %d", f, at, g, e)
				}
			}
		}
	}
}

// P3.1: flits are the same if all of theirs is, may they be or not.
func TestSame(t *testing.T) {
	l := []api.Flit{
		{}, {Kind: 1}, {Kind: 2}, {Kind: -1}, {Src: 1}, {Dst: 1}, {Seq: 1}, {Len: 1}, {More: true}, {Cast: true}, {Data: "a"}, {Data: "\x00"}, {Data: "ab"},
		{Kind: 1, Src: 1, Dst: 1, Seq: 1, Len: 1, More: true, Cast: true, Data: "a"},
		{Kind: 1, Src: 1, Dst: 1, Seq: 1, Len: 1, More: true, Cast: true, Data: "b"},
		{Kind: 1, Src: 1, Dst: 2, Seq: 1, Len: 1, More: true, Cast: true, Data: "a"},
		{Src: math.MinInt}, {Src: 1 << 32}, {Data: strings.Repeat("x", 70000)}, {Data: strings.Repeat("x", 69999) + "y"},
	}
	for i, a := range l {
		for k, b := range l {
			b.Data = strings.Clone(b.Data)
			if Same(a, b) != (i == k) {
				t.Errorf("Same(flit %d, flit %d): %v", i, k, i != k)
			}
		}
	}
}

// P3.1: the kind is the two lowest bits, of any word.
func TestKind(t *testing.T) {
	for _, x := range []struct {
		word uint64
		want int
	}{{0, 0}, {1, 1}, {2, 2}, {3, 3}, {4, 0}, {7, 3}, {math.MaxUint64, 3}, {math.MaxUint64 - 1, 2}, {math.MaxUint64 - 2, 1}, {math.MaxUint64 - 3, 0}, {1 << 63, 0}} {
		if k := Kind(x.word); k != x.want {
			t.Errorf("Kind(%#x): %d, want %d", x.word, k, x.want)
		}
	}
}
