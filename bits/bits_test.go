package bits

import (
	"math"
	"slices"
	"testing"

	"reticule/api"
)

// words are such as show each bit, on and off, beside others that are on and off.
var words = []uint64{
	0, 1, 1 << 55, 1 << 56, 1 << 63, math.MaxUint64, math.MaxUint64 >> 8, 0xff << 56,
	0xaaaaaaaaaaaaaaaa, 0x5555555555555555, 0x0123456789abcdef, 0xfedcba9876543210, 0x8000000080000001,
}

// edges are numbers within, at and past the bounds of a place and a size, and those with which sums go round.
func edges() []int {
	l := []int{
		math.MinInt, math.MinInt + 1, math.MinInt32, -64, -32,
		65, 96, 127, 128, 256, math.MaxInt32, math.MaxInt - 63, math.MaxInt - 1, math.MaxInt,
	}
	for i := -2; i <= 66; i++ {
		l = append(l, i)
	}
	return l
}

// bitsOf tells a word bit by bit, the bit 0 first.
func bitsOf(word uint64) [64]uint8 {
	var l [64]uint8
	for i := range l {
		l[i] = uint8(word % 2)
		word /= 2
	}
	return l
}

func numberOf(l []uint8) uint64 {
	var n uint64
	for _, b := range slices.Backward(l) {
		n = 2*n + uint64(b)
	}
	return n
}

// mayBe tells whether there is a field: what the document says, one by one.
func mayBe(at, size int) bool {
	if size < 1 || size > 32 || at < 0 || at > 63 {
		return false
	}
	return at+size <= 64
}

// P2.1: Get of each field there is, and of such as there are not.
func TestGet(t *testing.T) {
	for _, word := range words {
		l := bitsOf(word)
		for _, at := range edges() {
			for _, size := range edges() {
				var want uint32
				we := api.ErrArg
				if mayBe(at, size) {
					want, we = uint32(numberOf(l[at:at+size])), api.OK
				}
				if v, e := Get(word, at, size); v != want || e != we {
					t.Fatalf("Get(%#x, %d, %d): %d, error %d, want %d, error %d", word, at, size, v, e, want, we)
				}
			}
		}
	}
}

// wantPut is Put bit by bit.
func wantPut(word uint64, at, size int, v uint32) (uint64, api.Errno) {
	if !mayBe(at, size) {
		return 0, api.ErrArg
	}
	l, of := bitsOf(word), bitsOf(uint64(v))
	if numberOf(of[size:]) != 0 {
		return 0, api.ErrSize
	}
	copy(l[at:at+size], of[:size])
	return numberOf(l[:]), api.OK
}

// P2.1: Put into each field there is, and into such as there are not, of values with and without room: ErrArg comes ahead of ErrSize.
func TestPut(t *testing.T) {
	for _, word := range words {
		for _, at := range edges() {
			for _, size := range edges() {
				values := []uint32{0, 1, 2, 5, 1 << 31, math.MaxUint32}
				if size >= 1 && size <= 31 {
					values = append(values, 1<<size-1, 1<<size, 1<<size+1)
				}
				for _, v := range values {
					want, we := wantPut(word, at, size, v)
					if w, e := Put(word, at, size, v); w != want || e != we {
						t.Fatalf("Put(%#x, %d, %d, %d): %#x, error %d, want %#x, error %d", word, at, size, v, w, e, want, we)
					}
				}
			}
		}
	}
}

// P2.1: checks that were worked out by hand.
func TestCheckByHand(t *testing.T) {
	for _, x := range []struct {
		word uint64
		want uint32
	}{
		{0, 103},             // 7, 224, 39, 192, 71, 160, 103
		{1 << 48, 104},       // the seventh byte counts once
		{1 << 40, 134},       // the sixth one 31 times: 103 + 31
		{1, 168},             // the first one 31^6 times, of which the rest is 65: 103 + 65
		{0xff << 48, 102},    // 103 + 255 - 256
		{0xff << 56, 103},    // the highest byte counts nothing
		{1<<63 | 1<<48, 104}, // nor does a bit of it
	} {
		if c := Check(x.word); c != x.want {
			t.Errorf("Check(%#x): %d, want %d", x.word, c, x.want)
		}
	}
}

// wantCheck takes the rest just once, at last: the numbers stay far below 2^64.
func wantCheck(word uint64) uint32 {
	var c uint64
	for range 7 {
		c = c*31 + word%256 + 7
		word /= 256
	}
	return uint32(c % 256)
}

// P2.1: Check, Seal and Right of many words.
func TestCheckSealRight(t *testing.T) {
	word := uint64(1)
	for i := range 20000 {
		word = word*6364136223846793005 + 1442695040888963407
		w := word
		if i < len(words) {
			w = words[i]
		}
		want := wantCheck(w)
		if c := Check(w); c != want {
			t.Fatalf("Check(%#x): %d, want %d", w, c, want)
		}
		sealed := w%(1<<56) + uint64(want)<<56
		if s := Seal(w); s != sealed || Seal(s) != s {
			t.Fatalf("Seal(%#x): %#x, want %#x", w, s, sealed)
		}
		if r := Right(w); r != (w == sealed) {
			t.Fatalf("Right(%#x): %v", w, r)
		}
	}
}

// P2.2: a word of which one byte of the lowest seven is another one isn't right by the same check, nor is one with another check.
func TestAnotherByteIsNotRight(t *testing.T) {
	for _, word := range words {
		s := Seal(word)
		if !Right(s) {
			t.Errorf("Right(%#x): false, though it is sealed", s)
		}
		for at := 0; at < 64; at += 8 {
			for other := uint64(1); other < 256; other++ {
				if w := s ^ other<<at; Right(w) {
					t.Fatalf("Right(%#x): true, of %#x with another byte from the bit %d on", w, s, at)
				}
			}
		}
	}
}

// P2.1: the example of the chapter, and other words.
func TestPack(t *testing.T) {
	for _, x := range []struct {
		sizes  []int
		values []uint32
		want   uint64
	}{
		{[]int{2, 12}, []uint32{1, 5}, 21},
		{nil, nil, 0},
		{[]int{}, []uint32{}, 0},
		{[]int{1}, []uint32{1}, 1},
		{[]int{32}, []uint32{math.MaxUint32}, 1<<32 - 1},
		{[]int{32, 32}, []uint32{1, 2}, 1 + 2<<32},
		{[]int{32, 32}, []uint32{math.MaxUint32, math.MaxUint32}, math.MaxUint64},
		{[]int{31, 32, 1}, []uint32{0, 0, 1}, 1 << 63},
		{[]int{4, 4, 4}, []uint32{1, 2, 3}, 0x321},
		{[]int{2, 12, 12, 16, 7, 1, 1}, []uint32{1, 4095, 0, 65535, 64, 0, 1}, 1 + 4095<<2 + 65535<<26 + 64<<42 + 1<<50},
	} {
		if w, e := Pack(x.sizes, x.values...); w != x.want || e != api.OK {
			t.Errorf("Pack(%v, %v): %#x, error %d, want %#x", x.sizes, x.values, w, e, x.want)
		}
		if l, e := Unpack(x.want, x.sizes...); !slices.Equal(l, x.values) || e != api.OK {
			t.Errorf("Unpack(%#x, %v): %v, error %d, want %v", x.want, x.sizes, l, e, x.values)
		}
	}
}

// P2.1: sizes that are none of a word's fields, alone, first, between and last.
func TestSizesThatAreNone(t *testing.T) {
	for _, bad := range edges() {
		if bad >= 1 && bad <= 32 {
			continue
		}
		for _, sizes := range [][]int{{bad}, {bad, 3}, {3, bad}, {3, bad, 4}, {3, 4, bad}, {bad, bad}, {bad, 2, bad}, {32, 32, bad}} {
			refused(t, sizes)
		}
	}
}

// P2.1: all are more than 64 bits, by one and by many.
func TestSizesThatAreTooMany(t *testing.T) {
	for _, sizes := range [][]int{
		{32, 32, 1}, {1, 32, 32}, {32, 1, 32}, {30, 30, 5}, {32, 31, 2}, {31, 31, 3}, {32, 32, 32}, slices.Repeat([]int{1}, 65), slices.Repeat([]int{32}, 100000),
	} {
		refused(t, sizes)
	}
}

// refused holds that these sizes are told ErrArg, also where a value has no room.
func refused(t *testing.T, sizes []int) {
	t.Helper()
	few := sizes[:min(len(sizes), 9)]
	for _, v := range []uint32{0, 1, math.MaxUint32} {
		if w, e := Pack(sizes, slices.Repeat([]uint32{v}, len(sizes))...); w != 0 || e != api.ErrArg {
			t.Errorf("Pack of the sizes %v, each value %d: %#x, error %d", few, v, w, e)
		}
	}
	if l, e := Unpack(math.MaxUint64, sizes...); len(l) != 0 || e != api.ErrArg {
		t.Errorf("Unpack of the sizes %v: %v, error %d", few, l, e)
	}
}

// P2.1: there are just as many values as sizes, else ErrArg, also where a value has no room.
func TestAsManyValuesAsSizes(t *testing.T) {
	const v = math.MaxUint32
	for _, x := range []struct {
		sizes  []int
		values []uint32
	}{
		{nil, []uint32{0}}, {[]int{4}, nil}, {[]int{4}, []uint32{1, 2}}, {[]int{4, 4}, []uint32{1}}, {[]int{4}, []uint32{v, v}}, {[]int{4, 4}, []uint32{v}},
	} {
		if w, e := Pack(x.sizes, x.values...); w != 0 || e != api.ErrArg {
			t.Errorf("Pack(%v, %v): %#x, error %d", x.sizes, x.values, w, e)
		}
	}
}

// P2.1, and R2: a value has no room in its field, whichever it is; the greatest one that has is packed. The other value is 1, which would show in a word beside an error.
func TestValuesWithoutRoom(t *testing.T) {
	for size := 1; size <= 31; size++ {
		for place := range 2 {
			sizes := []int{size, size}
			values := []uint32{1, 1}
			values[place] = 1<<size - 1
			want := (1<<size-1)<<(size*place) + uint64(1)<<(size*(1-place))
			if w, e := Pack(sizes, values...); w != want || e != api.OK {
				t.Errorf("Pack(%v, %v): %#x, error %d, want %#x", sizes, values, w, e, want)
			}
			for _, v := range []uint32{1 << size, math.MaxUint32} {
				values[place] = v
				if w, e := Pack(sizes, values...); w != 0 || e != api.ErrSize {
					t.Errorf("Pack(%v, %v): %#x, error %d", sizes, values, w, e)
				}
			}
		}
	}
}

// P2.2: what is packed is unpacked, for many rows of sizes; what is beyond the sizes is 0, and isn't looked at.
func TestPackedIsUnpacked(t *testing.T) {
	seed := uint64(1)
	draw := func() uint32 {
		seed = seed*6364136223846793005 + 1442695040888963407
		return uint32(seed >> 32)
	}
	for range 20000 {
		var sizes []int
		var values []uint32
		at := 0
		for {
			size := 1 + int(draw()%32)
			if at+size > 64 {
				break
			}
			sizes, values = append(sizes, size), append(values, uint32(uint64(draw())%(1<<size)))
			at += size
		}
		w, e := Pack(sizes, values...)
		if e != api.OK || at < 64 && w>>at != 0 {
			t.Fatalf("Pack(%v, %v): %#x, error %d", sizes, values, w, e)
		}
		beyond := w
		if at < 64 {
			beyond |= math.MaxUint64 << at
		}
		for _, word := range []uint64{w, beyond} {
			if l, e := Unpack(word, sizes...); !slices.Equal(l, values) || e != api.OK {
				t.Fatalf("Unpack(%#x, %v): %v, error %d, want %v", word, sizes, l, e, values)
			}
		}
	}
}

// P2.1: no sizes are no values, of any word.
func TestUnpackOfNone(t *testing.T) {
	for _, word := range words {
		if l, e := Unpack(word); len(l) != 0 || e != api.OK {
			t.Errorf("Unpack(%#x): %v, error %d", word, l, e)
		}
	}
}

// P2.1, and R4, R6: what is handed in is as it was, and an answer is new memory each time.
func TestListsAreNotTurned(t *testing.T) {
	sizes, values := []int{2, 12, 32}, []uint32{1, 5, 9}
	w, _ := Pack(sizes, values...)
	a, _ := Unpack(w, sizes...)
	a[0] = 3
	b, _ := Unpack(w, sizes...)
	if !slices.Equal(sizes, []int{2, 12, 32}) || !slices.Equal(values, []uint32{1, 5, 9}) || !slices.Equal(b, values) {
		t.Errorf("turned: %v, %v, %v", sizes, values, b)
	}
}
