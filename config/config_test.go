package config

import (
	"math"
	"regexp"
	"strconv"
	"strings"
	"testing"

	"reticule/api"
)

// edges are numbers within, at and past the bounds of all numbers of a config, and such as are within them if they are cut to fewer bits.
var edges = []int{
	math.MinInt, math.MinInt32, -999999999, -64, -1, 0, 1, 2, 3, 7, 8, 9, 15, 16, 17, 32, 63, 64, 65, 128,
	255, 257, 65537, 999999999, math.MaxInt32, 1<<32 + 1, 1<<32 + 16, math.MaxInt,
}

// bases are configs that may be, of the least and of the greatest numbers too, with each of the two words and without.
func bases() []api.Config {
	var l []api.Config
	for _, c := range []api.Config{
		{W: 1, H: 1, Lanes: 2, Depth: 1, Ring: 1, Inbox: 1, Bound: 1},
		{W: 4, H: 3, Lanes: 5, Depth: 2, Ring: 6, Inbox: 7, Bound: 9},
		{W: 64, H: 64, Lanes: 8, Depth: 64, Ring: 64, Inbox: 64, Bound: 16},
	} {
		for words := range 4 {
			c.West, c.Cast = words&1 != 0, words&2 != 0
			l = append(l, c)
		}
	}
	return l
}

// numbers are the places of a config's numbers, in the row of its text.
func numbers(c *api.Config) [7]*int {
	return [7]*int{&c.W, &c.H, &c.Lanes, &c.Depth, &c.Ring, &c.Inbox, &c.Bound}
}

// draw makes numbers in a row that is always the same.
type draw uint64

func (d *draw) below(n int) int {
	*d = *d*6364136223846793005 + 1442695040888963407
	z := uint64(*d)
	z = (z ^ z>>32) * 0xd6e8feb86659fd93
	return int((z ^ z>>32) % uint64(n))
}

// wantCheck is what the document says, one by one.
func wantCheck(c api.Config) api.Errno {
	if c.W < 1 || c.W > 64 || c.H < 1 || c.H > 64 {
		return api.ErrSize
	}
	if c.Lanes < 1 || c.Lanes > 8 || c.Cast && c.Lanes < 2 {
		return api.ErrConfig
	}
	for _, n := range []int{c.Depth, c.Ring, c.Inbox} {
		if n < 1 || n > 64 {
			return api.ErrConfig
		}
	}
	if c.Bound < 1 || c.Bound > 16 {
		return api.ErrConfig
	}
	return api.OK
}

// wantText puts each number ahead of what stands behind it, digit by digit.
func wantText(c api.Config) string {
	s := ""
	for i, n := range numbers(&c) {
		if *n < 0 {
			s += "-"
		}
		digits := ""
		far := uint64(*n)
		if *n < 0 {
			far = -far
		}
		for far > 0 || digits == "" {
			digits = string("0123456789"[far%10]) + digits
			far /= 10
		}
		s += digits + string("x     "[min(i, 5)])
	}
	s = s[:len(s)-1]
	if c.West {
		s += " west"
	}
	if c.Cast {
		s += " cast"
	}
	return s
}

// form is what a text of a config is, of numbers of 9 digits at most.
var form = func() *regexp.Regexp {
	const n = `(0|-?[1-9][0-9]{0,8})`
	return regexp.MustCompile(`\A` + n + `x` + n + strings.Repeat(` `+n, 5) + `( west)?( cast)?\z`)
}()

func wantRead(s string) (api.Config, api.Errno) {
	l := form.FindStringSubmatch(s)
	if l == nil {
		return api.Config{}, api.ErrForm
	}
	c := api.Config{West: l[8] != "", Cast: l[9] != ""}
	for i, place := range numbers(&c) {
		*place, _ = strconv.Atoi(l[1+i])
	}
	if e := wantCheck(c); e != api.OK {
		return api.Config{}, e
	}
	return c, api.OK
}

// hold asks all calls of a config, and holds their answers against the document.
func hold(t *testing.T, c api.Config) {
	t.Helper()
	want := wantCheck(c)
	if e := Check(c); e != want {
		t.Fatalf("Check(%+v): error %d, want %d", c, e, want)
	}
	nodes, one, several := 0, [2]int{}, [2]int{}
	if want == api.OK {
		nodes, one = c.W*c.H, [2]int{0, c.Lanes}
		if c.Cast {
			one, several = [2]int{0, c.Lanes - 1}, [2]int{c.Lanes - 1, 1}
		}
	}
	if n := Nodes(c); n != nodes {
		t.Fatalf("Nodes(%+v): %d, want %d", c, n, nodes)
	}
	if a, n := Class(c, false); [2]int{a, n} != one {
		t.Fatalf("Class(%+v, false): %d, %d, want %v", c, a, n, one)
	}
	if a, n := Class(c, true); [2]int{a, n} != several {
		t.Fatalf("Class(%+v, true): %d, %d, want %v", c, a, n, several)
	}
	s := Text(c)
	if s != wantText(c) {
		t.Fatalf("Text(%+v): %q, want %q", c, s, wantText(c))
	}
	holdText(t, s)
	if got, e := Read(s); want == api.OK && (got != c || e != api.OK) {
		t.Fatalf("Read(%q): %+v, error %d, want %+v", s, got, e, c)
	}
}

func holdText(t *testing.T, s string) {
	t.Helper()
	want, we := wantRead(s)
	if c, e := Read(s); c != want || e != we {
		t.Fatalf("Read(%q): %+v, error %d, want %+v, error %d", s[:min(len(s), 100)], c, e, want, we)
	}
}

// P4.1, P4.2: each number of a config at and past its bounds, alone and beside each other one.
func TestEachNumberAtItsBounds(t *testing.T) {
	for _, c := range bases() {
		for i := range numbers(&c) {
			for k := range i + 1 {
				for _, a := range edges {
					for _, b := range edges {
						more := c
						*numbers(&more)[i], *numbers(&more)[k] = a, b
						hold(t, more)
					}
				}
			}
		}
	}
}

// P4.1: the least and the greatest of each number by themselves, and the one past each.
func TestBoundsByHand(t *testing.T) {
	good := api.Config{W: 4, H: 4, Lanes: 2, Depth: 2, Ring: 4, Inbox: 8, Bound: 4, West: true, Cast: true}
	for i, x := range []struct {
		name        string
		least, most int
		past        api.Errno
	}{
		{"W", 1, 64, api.ErrSize},
		{"H", 1, 64, api.ErrSize},
		{"Lanes, with Cast", 2, 8, api.ErrConfig},
		{"Depth", 1, 64, api.ErrConfig},
		{"Ring", 1, 64, api.ErrConfig},
		{"Inbox", 1, 64, api.ErrConfig},
		{"Bound", 1, 16, api.ErrConfig},
	} {
		for n, want := range map[int]api.Errno{x.least - 1: x.past, x.least: api.OK, x.most: api.OK, x.most + 1: x.past} {
			c := good
			*numbers(&c)[i] = n
			if e := Check(c); e != want {
				t.Errorf("%s %d: error %d, want %d", x.name, n, e, want)
			}
		}
	}
	for lanes, want := range []api.Errno{api.ErrConfig, api.OK, api.OK} {
		c := good
		c.Lanes, c.Cast = lanes, false
		if e := Check(c); e != want {
			t.Errorf("Lanes %d, without Cast: error %d, want %d", lanes, e, want)
		}
	}
	if e := Check(api.Config{W: 65, H: 4}); e != api.ErrSize {
		t.Errorf("W, and all others: error %d", e)
	}
}

// P4.1: of a config that may not be there are no nodes and no lanes, though its other numbers may be.
func TestNodesAndClassByHand(t *testing.T) {
	for _, x := range []struct {
		c            api.Config
		nodes        int
		one, several [2]int
	}{
		{api.Config{W: 4, H: 3, Lanes: 1, Depth: 1, Ring: 1, Inbox: 1, Bound: 1}, 12, [2]int{0, 1}, [2]int{}},
		{api.Config{W: 4, H: 3, Lanes: 8, Depth: 1, Ring: 1, Inbox: 1, Bound: 1}, 12, [2]int{0, 8}, [2]int{}},
		{api.Config{W: 64, H: 64, Lanes: 2, Depth: 1, Ring: 1, Inbox: 1, Bound: 1, Cast: true}, 4096, [2]int{0, 1}, [2]int{1, 1}},
		{api.Config{W: 1, H: 1, Lanes: 8, Depth: 1, Ring: 1, Inbox: 1, Bound: 1, Cast: true}, 1, [2]int{0, 7}, [2]int{7, 1}},
		{api.Config{W: 4, H: 3, Lanes: 8, Depth: 1, Ring: 1, Inbox: 1, Bound: 17, Cast: true}, 0, [2]int{}, [2]int{}},
		{api.Config{W: 4, H: 3, Lanes: 1, Depth: 1, Ring: 1, Inbox: 1, Bound: 1, Cast: true}, 0, [2]int{}, [2]int{}},
		{api.Config{W: 0, H: 3, Lanes: 1, Depth: 1, Ring: 1, Inbox: 1, Bound: 1}, 0, [2]int{}, [2]int{}},
		{api.Config{W: 65, H: 1, Lanes: 1, Depth: 1, Ring: 1, Inbox: 1, Bound: 1}, 0, [2]int{}, [2]int{}},
	} {
		a, n := Class(x.c, false)
		b, m := Class(x.c, true)
		if Nodes(x.c) != x.nodes || [2]int{a, n} != x.one || [2]int{b, m} != x.several {
			t.Errorf("%+v: %d nodes, classes %d, %d and %d, %d", x.c, Nodes(x.c), a, n, b, m)
		}
	}
}

// P4.2: each lane is of just one class, and no class has a lane that isn't there; with Cast both have one.
func TestEachLaneIsOfOneClass(t *testing.T) {
	for lanes := -1; lanes <= 10; lanes++ {
		for _, cast := range []bool{false, true} {
			c := api.Config{W: 4, H: 4, Lanes: lanes, Depth: 2, Ring: 4, Inbox: 8, Bound: 4, Cast: cast}
			classes := make([]int, 12)
			for _, several := range []bool{false, true} {
				first, many := Class(c, several)
				for l := first; l < first+many; l++ {
					classes[l]++
				}
				if Check(c) == api.OK && (many > 0) != (cast || !several) {
					t.Errorf("Class(%+v, %v): %d lanes", c, several, many)
				}
			}
			for l, n := range classes {
				if want := Check(c) == api.OK && l < lanes; n > 1 || (n == 1) != want {
					t.Errorf("%+v: lane %d is of %d classes", c, l, n)
				}
			}
		}
	}
}

// P4.1, P4.2: texts that were written down by hand.
func TestTextsByHand(t *testing.T) {
	for s, c := range map[string]api.Config{
		"4x4 2 2 4 8 4 west cast":      {W: 4, H: 4, Lanes: 2, Depth: 2, Ring: 4, Inbox: 8, Bound: 4, West: true, Cast: true}, // the example of the chapter
		"4x3 2 5 6 8 7 cast":           {W: 4, H: 3, Lanes: 2, Depth: 5, Ring: 6, Inbox: 8, Bound: 7, Cast: true},
		"1x2 3 4 5 6 7 west":           {W: 1, H: 2, Lanes: 3, Depth: 4, Ring: 5, Inbox: 6, Bound: 7, West: true},
		"64x64 8 64 64 64 16":          {W: 64, H: 64, Lanes: 8, Depth: 64, Ring: 64, Inbox: 64, Bound: 16},
		"10x20 1 30 40 50 10":          {W: 10, H: 20, Lanes: 1, Depth: 30, Ring: 40, Inbox: 50, Bound: 10},
		"1x1 2 1 1 1 1 west cast":      {W: 1, H: 1, Lanes: 2, Depth: 1, Ring: 1, Inbox: 1, Bound: 1, West: true, Cast: true},
		"0x0 0 0 0 0 0":                {},
		"-1x-2 -3 -4 -5 -6 -7":         {W: -1, H: -2, Lanes: -3, Depth: -4, Ring: -5, Inbox: -6, Bound: -7},
		"1x1 1000000000 1 1 1 1 west":  {W: 1, H: 1, Lanes: 1000000000, Depth: 1, Ring: 1, Inbox: 1, Bound: 1, West: true},
		"4x4 2 2 4 8 -2147483648 cast": {W: 4, H: 4, Lanes: 2, Depth: 2, Ring: 4, Inbox: 8, Bound: math.MinInt32, Cast: true},
	} {
		if got := Text(c); got != s {
			t.Errorf("Text(%+v): %q, want %q", c, got, s)
		}
		got, e := Read(s)
		if Check(c) == api.OK && (got != c || e != api.OK) || Check(c) != api.OK && (got != api.Config{} || e == api.OK) {
			t.Errorf("Read(%q): %+v, error %d", s, got, e)
		}
	}
}

// P4.1: texts by their error: what is no config's text ahead of what may not be, of that W and H ahead of the others.
func TestTextsThatAreRefused(t *testing.T) {
	for want, l := range map[api.Errno][]string{
		api.ErrForm: {
			"", " ", "x", "4", "4x", "4x4", "x4 2 2 4 8 4", "4x 2 2 4 8 4", "4x4 2 2 4 8", "4x4 2 2 4 8 ", "4x4 2 2 4 8 4 5", "west", "4x4 west",
			" 4x4 2 2 4 8 4", "4x4 2 2 4 8 4 ", "4x4  2 2 4 8 4", "4x4 2 2 4 8  4", "4x4 2 2 4 8 4\n", "4x4\t2 2 4 8 4", "4x4 2 2 4 8 4 west ", "4x4 2 2 4 8 4  west",
			"4 x4 2 2 4 8 4", "4x 4 2 2 4 8 4", "4X4 2 2 4 8 4", "4 4 2 2 4 8 4", "4x4x2 2 4 8 4", "4x4 2x2 4 8 4", "4x4 2 2 4 8 4x",
			"04x4 2 2 4 8 4", "4x04 2 2 4 8 4", "4x4 02 2 4 8 4", "4x4 2 2 4 8 04", "4x4 2 00 4 8 4", "4x4 -02 2 4 8 4", "4x4 2 2 4 8 000000004",
			"+4x4 2 2 4 8 4", "4x4 2 2 4 8 +4", "4x4 -0 2 4 8 4", "-0x4 2 2 4 8 4", "4x4 - 2 4 8 4", "4x4 --2 2 4 8 4", "4x4 2 2 4 8 4-", "4x4 -+2 2 4 8 4",
			"4x4 0x2 2 4 8 4", "4x4 1_6 2 4 8 4", "4x4 2.0 2 4 8 4", "4x4 1e1 2 4 8 4", "4x4 a 2 4 8 4", "4x4 \u0662 2 4 8 4", "4x4 2 2 4 8 4\x00",
			"4x4 2 2 4 8 4 cast west", "4x4 2 2 4 8 4 west west", "4x4 2 2 4 8 4 cast cast", "4x4 2 2 4 8 4 westcast", "4x4 2 2 4 8 4west", "4x4 2 2 4 8 4 West", "4x4 2 2 4 8 4 wes", "4x4 2 2 4 8 4 westx cast", "4x4 2 2 4 8 4 east", "4x4 2 2 4 8 4 west east cast", "west 4x4 2 2 4 8 4",
			"1000000000x4 2 2 4 8 4", "4x4 2 2 4 8 1000000000", "4x4 -1000000000 2 4 8 4", "4x4 2 2 4 8 0000000004", "4x4 18446744073709551618 2 4 8 4", "4x4 4294967298 2 4 8 4",
			"0x4 2 2 4 8", "4x4 2 2 4 8 99 west west", "0x0 0 0 0 0 00",
		},
		api.ErrSize: {
			"0x4 2 2 4 8 4", "4x0 2 2 4 8 4", "-4x4 2 2 4 8 4", "4x-4 2 2 4 8 4 west", "65x4 2 2 4 8 4", "4x65 2 2 4 8 4 cast",
			"999999999x4 2 2 4 8 4", "4x-999999999 2 2 4 8 4", "0x0 0 0 0 0 0", "0x4 0 2 4 8 4", "4x65 1 2 4 8 99 cast",
		},
		api.ErrConfig: {
			"4x4 0 2 4 8 4", "4x4 -2 2 4 8 4", "4x4 9 2 4 8 4", "4x4 1 2 4 8 4 cast", "4x4 1 2 4 8 4 west cast", "4x4 2 0 4 8 4", "4x4 2 65 4 8 4",
			"4x4 2 2 0 8 4", "4x4 2 2 65 8 4", "4x4 2 2 4 0 4", "4x4 2 2 4 65 4", "4x4 2 2 4 8 0", "4x4 2 2 4 8 17", "4x4 2 2 4 8 999999999", "4x4 2 -999999999 4 8 4",
		},
	} {
		for _, s := range l {
			if c, e := Read(s); c != (api.Config{}) || e != want {
				t.Errorf("Read(%q): %+v, error %d, want error %d", s, c, e, want)
			}
			holdText(t, s)
		}
	}
}

// P4.1: texts of configs, each with one byte more, one less, or another one, at each place, and each cut off.
func TestTextsNearly(t *testing.T) {
	const others = "0123456789x-+ _.wXWcst\n\t\x00\xff"
	for _, c := range append(bases(), api.Config{}, api.Config{W: -10, H: 999999999, Lanes: 20, Bound: -999999999, Cast: true}) {
		s := Text(c)
		holdText(t, s)
		for at := range len(s) + 1 {
			holdText(t, s[:at])
			holdText(t, s[at:])
			for _, b := range []byte(others) {
				holdText(t, s[:at]+string([]byte{b})+s[at:])
				if at < len(s) {
					holdText(t, s[:at]+string([]byte{b})+s[at+1:])
				}
			}
			if at < len(s) {
				holdText(t, s[:at]+s[at+1:])
			}
		}
	}
}

// P4.1: many texts of pieces of such as are configs', in any row.
func TestManyTexts(t *testing.T) {
	pieces := []string{"0", "1", "2", "16", "64", "65", "-", "-1", "00", "x", " ", "  ", "west", "cast", " west", " cast", "4x4", " 2 2 4 8", " 4", "999999999", "1000000000"}
	d := draw(1)
	for range 200000 {
		s := ""
		for range d.below(14) {
			s += pieces[d.below(len(pieces))]
		}
		holdText(t, s)
	}
	for range 100000 {
		s := ""
		for i := range 7 {
			s += pieces[d.below(6)]
			if i < 6 || d.below(8) == 0 {
				s += []string{"x", " "}[min(i, 1)]
			}
		}
		holdText(t, s+pieces[14+d.below(2)])
		holdText(t, s)
	}
}

// P4.2: what is written is read, of many configs that may be.
func TestWhatIsWrittenIsRead(t *testing.T) {
	d := draw(2)
	for range 50000 {
		hold(t, api.Config{
			W: 1 + d.below(64), H: 1 + d.below(64), Lanes: 2 + d.below(7), Depth: 1 + d.below(64), Ring: 1 + d.below(64), Inbox: 1 + d.below(64), Bound: 1 + d.below(16),
			West: d.below(2) == 1, Cast: d.below(2) == 1,
		})
	}
}

// P4.1: texts that are long, of digits, of blanks, of words.
func TestLongTexts(t *testing.T) {
	const good = "4x4 2 2 4 8 4 west cast"
	for _, piece := range []string{"0", "1", "-", "x", " ", "west", " cast", "4x", "1 ", good, good + " ", good + "\n"} {
		long := strings.Repeat(piece, 1<<20)
		for _, s := range []string{long, good + long, long + good, good[:4] + long + good[4:], good[:13] + long + good[13:], good[:18] + long + good[18:]} {
			if c, e := Read(s); c != (api.Config{}) || e != api.ErrForm {
				t.Errorf("Read of %q, with %q very often: %+v, error %d", s[:30], piece, c, e)
			}
		}
	}
}
