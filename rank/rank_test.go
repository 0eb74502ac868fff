package rank

import (
	"math"
	"slices"
	"testing"

	"reticule/api"
	"reticule/grid"
	"reticule/turn"
)

// of tells a config that may be, of that size.
func of(w, h int) api.Config {
	return api.Config{W: w, H: h, Lanes: 2, Depth: 2, Ring: 4, Inbox: 8, Bound: 4}
}

// configs are of small sizes, all of them, and of some that are long, each along x first and West first.
func configs() []api.Config {
	var l []api.Config
	sizes := [][2]int{{1, 64}, {64, 1}, {2, 64}, {64, 2}, {13, 7}}
	for w := 1; w <= 5; w++ {
		for h := 1; h <= 5; h++ {
			sizes = append(sizes, [2]int{w, h})
		}
	}
	for _, s := range sizes {
		c := of(s[0], s[1])
		l = append(l, c)
		c.West = true
		l = append(l, c)
	}
	return l
}

// wrong are configs that may not be, each by one of its numbers.
func wrong() []api.Config {
	l := []api.Config{{}, {W: 4, H: 4}}
	for _, turn := range []func(c *api.Config){
		func(c *api.Config) { c.W = 0 },
		func(c *api.Config) { c.W = 65 },
		func(c *api.Config) { c.W = math.MaxInt },
		func(c *api.Config) { c.H = 0 },
		func(c *api.Config) { c.H = 65 },
		func(c *api.Config) { c.H = math.MinInt },
		func(c *api.Config) { c.W, c.H = -4, -4 },
		func(c *api.Config) { c.Lanes = 0 },
		func(c *api.Config) { c.Lanes = 9 },
		func(c *api.Config) { c.Lanes, c.Cast = 1, true },
		func(c *api.Config) { c.Depth = 65 },
		func(c *api.Config) { c.Ring = 0 },
		func(c *api.Config) { c.Inbox = 65 },
		func(c *api.Config) { c.Bound = 17 },
	} {
		c := of(4, 4)
		turn(&c)
		l = append(l, c)
	}
	return l
}

// beyond are numbers that are none of those from 0 to the limit less 1, such as are if they are cut to fewer bits among them.
func beyond(limit int) []int {
	return []int{math.MinInt, math.MinInt + 1, math.MinInt32, -limit, -2, -1, limit, limit + 1, 2 * limit, math.MaxInt32, 1 << 32, 1<<32 + 1, 1 << 62, math.MaxInt}
}

// model has at each rank the channels that have it: written down column by column, as one walks them.
type model [][][2]int

func modelOf(c api.Config) model {
	var m model
	for x := c.W - 1; x >= 0; x-- {
		var l [][2]int
		for y := 0; y < c.H && x > 0; y++ {
			l = append(l, [2]int{y*c.W + x, api.West})
		}
		m = append(m, l)
	}
	for x := 0; x < c.W; x++ {
		for y := 0; y < c.H; y++ {
			var l [][2]int
			if up := y; up < c.H-1 {
				l = append(l, [2]int{up*c.W + x, api.North})
			}
			if down := c.H - 1 - y; down > 0 {
				l = append(l, [2]int{down*c.W + x, api.South})
			}
			m = append(m, l)
		}
		var l [][2]int
		for y := 0; y < c.H && x < c.W-1; y++ {
			l = append(l, [2]int{y*c.W + x, api.East})
		}
		m = append(m, l)
		m = append(m, make([][][2]int, c.H-1)...) // ranks that no channel has
	}
	return m
}

// rank is -1 of what is no channel.
func (m model) rank(channel [2]int) int {
	return slices.IndexFunc(m, func(l [][2]int) bool { return slices.Contains(l, channel) })
}

// ranks tells all channels with their ranks.
func (m model) ranks() map[[2]int]int {
	ranks := map[[2]int]int{}
	for n, l := range m {
		for _, channel := range l {
			ranks[channel] = n
		}
	}
	return ranks
}

// sorted tells all channels by rank, and of one rank by node, then by port.
func (m model) sorted() [][2]int {
	var all [][2]int
	for _, l := range m {
		slices.SortFunc(l, func(a, b [2]int) int { return slices.Compare(a[:], b[:]) })
		all = append(all, l...)
	}
	return all
}

// shuffled tells a list in another row, the same one each time.
func shuffled(l [][2]int) [][2]int {
	l = slices.Clone(l)
	n := uint32(7)
	for i := len(l) - 1; i > 0; i-- {
		n = n*1664525 + 1013904223
		j := int(n>>8) % (i + 1)
		l[i], l[j] = l[j], l[i]
	}
	return l
}

// holdNone asks all calls of what is no channel.
func holdNone(t *testing.T, c api.Config, node, port int) {
	t.Helper()
	none, some := [2]int{node, port}, [2]int{0, api.East}
	if n, ok := Of(c, node, port); n != 0 || ok {
		t.Errorf("%+v: Of(%d, %d): %d, %v", c, node, port, n, ok)
	}
	if Less(c, none, some) || Less(c, some, none) || Less(c, none, none) {
		t.Errorf("%+v: Less of %v", c, none)
	}
	if Rises(c, [][2]int{none}) || Rises(c, [][2]int{none, some}) || Rises(c, [][2]int{some, none}) {
		t.Errorf("%+v: Rises of %v", c, none)
	}
	if l := Sorted(c, [][2]int{none, none}); len(l) != 0 {
		t.Errorf("%+v: Sorted of %v: %v", c, none, l)
	}
}

// P7.1: the rank of each channel, and none of Local, nor of a port beyond a side.
func TestOf(t *testing.T) {
	for _, c := range configs() {
		ranks := modelOf(c).ranks()
		if len(ranks) != len(grid.Links(c)) {
			t.Fatalf("%+v: the model has %d channels", c, len(ranks))
		}
		for node := range c.W * c.H {
			for port := range api.Ports {
				want, is := ranks[[2]int{node, port}]
				if n, ok := Of(c, node, port); n != want || ok != is {
					t.Fatalf("%+v: Of(%d, %d): %d, %v, want %d, %v", c, node, port, n, ok, want, is)
				}
			}
		}
	}
}

// P7.1: nodes and ports that are none, each beside one that is, and both.
func TestWhatIsNoChannel(t *testing.T) {
	for _, c := range []api.Config{of(1, 1), of(2, 1), of(1, 2), of(4, 4), of(13, 7), of(64, 64)} {
		for _, node := range beyond(c.W * c.H) {
			for _, port := range append(beyond(api.Ports), 0, 1, 2, 3, 4) {
				holdNone(t, c, node, port)
			}
		}
		for _, port := range append(beyond(api.Ports), api.Local) {
			holdNone(t, c, 0, port)
			holdNone(t, c, c.W*c.H-1, port)
		}
		last := c.W*c.H - 1
		for _, x := range [][2]int{{0, api.West}, {0, api.South}, {c.W - 1, api.East}, {last - c.W + 1, api.West}, {last, api.East}, {last, api.North}} {
			holdNone(t, c, x[0], x[1])
		}
	}
}

// P7.1: a config that may not be has no channel, whichever of its numbers is wrong, and no rank; a way of none rises all the same.
func TestConfigsThatMayNotBe(t *testing.T) {
	for _, c := range wrong() {
		for _, node := range append(beyond(16), 0, 1, 5, 15) {
			for _, port := range append(beyond(api.Ports), 0, 1, 2, 3, 4) {
				holdNone(t, c, node, port)
			}
		}
		if n := Most(c); n != 0 {
			t.Errorf("%+v: Most: %d", c, n)
		}
		if !Rises(c, nil) || !Rises(c, [][2]int{}) || len(Sorted(c, nil)) != 0 {
			t.Errorf("%+v: of none", c)
		}
	}
}

// P7.1: Most is more than each rank.
func TestMost(t *testing.T) {
	for _, c := range append(configs(), of(64, 64)) {
		if n, want := Most(c), len(modelOf(c)); n != want {
			t.Errorf("%+v: Most: %d, want %d", c, n, want)
		}
		for _, x := range grid.Links(c) {
			if n, ok := Of(c, x[0], x[1]); !ok || n < 0 || n >= Most(c) {
				t.Fatalf("%+v: Of(%d, %d): %d, %v, Most %d", c, x[0], x[1], n, ok, Most(c))
			}
		}
	}
}

// P7.1: answers that were written down by hand, the chapter's examples first.
func TestByHand(t *testing.T) {
	for _, x := range []struct{ w, h, node, port, want int }{
		{4, 4, 3, api.West, 0}, {4, 4, 0, api.East, 8},
		{4, 4, 15, api.West, 0}, {4, 4, 1, api.West, 2}, {4, 4, 13, api.West, 2},
		{4, 4, 0, api.North, 4}, {4, 4, 12, api.South, 4}, {4, 4, 8, api.North, 6}, {4, 4, 4, api.South, 6},
		{4, 4, 5, api.North, 13}, {4, 4, 5, api.South, 14}, {4, 4, 5, api.East, 16}, {4, 4, 5, api.West, 2},
		{4, 4, 14, api.East, 24}, {4, 4, 11, api.North, 30}, {4, 4, 7, api.South, 30},
		{2, 1, 0, api.East, 3}, {2, 1, 1, api.West, 0}, {1, 2, 0, api.North, 1}, {1, 2, 1, api.South, 1},
		{64, 64, 63, api.West, 0}, {64, 64, 4033, api.West, 62}, {64, 64, 0, api.North, 64}, {64, 64, 4095, api.South, 8128},
		{64, 64, 4031, api.North, 8190}, {64, 64, 62, api.East, 8064}, {64, 64, 127, api.South, 8190},
	} {
		if n, ok := Of(of(x.w, x.h), x.node, x.port); n != x.want || !ok {
			t.Errorf("%dx%d: Of(%d, %d): %d, %v, want %d", x.w, x.h, x.node, x.port, n, ok, x.want)
		}
	}
	for _, x := range [][3]int{{4, 4, 36}, {3, 2, 15}, {1, 1, 3}, {2, 1, 6}, {1, 2, 5}, {64, 64, 8256}, {0, 4, 0}, {4, 65, 0}} {
		if n := Most(of(x[0], x[1])); n != x[2] {
			t.Errorf("%dx%d: Most: %d, want %d", x[0], x[1], n, x[2])
		}
	}
	c := of(2, 2)
	want := [][2]int{{1, api.West}, {3, api.West}, {0, api.North}, {2, api.South}, {0, api.East}, {2, api.East}, {1, api.North}, {3, api.South}}
	if l := Sorted(c, grid.Links(c)); !slices.Equal(l, want) {
		t.Errorf("2x2: Sorted: %v", l)
	}
}

// P7.1: Less of each two channels of small sizes, such as have the same rank and such as are none among them.
func TestLess(t *testing.T) {
	for _, s := range [][2]int{{1, 1}, {2, 1}, {1, 2}, {2, 2}, {3, 2}, {3, 4}} {
		c := of(s[0], s[1])
		m := modelOf(c)
		var all [][2]int
		for node := -1; node <= c.W*c.H; node++ {
			for port := -1; port <= api.Ports; port++ {
				all = append(all, [2]int{node, port})
			}
		}
		for _, a := range all {
			for _, b := range all {
				want := m.rank(a) >= 0 && m.rank(a) < m.rank(b)
				if Less(c, a, b) != want {
					t.Fatalf("%dx%d: Less(%v, %v): %v", c.W, c.H, a, b, !want)
				}
			}
		}
	}
}

// P7.1: Rises of each way of up to three of some channels, the same one twice, one of the same rank, and none among them.
func TestRises(t *testing.T) {
	c := of(3, 2)
	m := modelOf(c)
	some := [][2]int{{2, api.West}, {5, api.West}, {1, api.West}, {0, api.North}, {3, api.South}, {0, api.East}, {4, api.East}, {2, api.North}, {0, api.West}, {0, api.Local}, {6, api.East}}
	hold := func(way ...[2]int) {
		t.Helper()
		want, ahead := true, -1
		for _, channel := range way {
			want = want && m.rank(channel) > ahead
			ahead = m.rank(channel)
		}
		if Rises(c, way) != want {
			t.Errorf("Rises(%v): %v", way, !want)
		}
	}
	hold()
	for _, x := range some {
		hold(x)
		for _, y := range some {
			hold(x, y)
			for _, z := range some {
				hold(x, y, z)
			}
		}
	}
}

// P7.1: one fall, or one that is no channel, anywhere in a long way is seen.
func TestRisesOfLongWays(t *testing.T) {
	c := of(64, 1)
	var way [][2]int
	for node := 63; node > 0; node-- {
		way = append(way, [2]int{node, api.West})
	}
	for node := range 63 {
		way = append(way, [2]int{node, api.East})
	}
	if !Rises(c, way) {
		t.Errorf("Rises of all: false")
	}
	for i := range way {
		for _, bad := range [][2]int{{0, api.West}, {0, api.Local}, {64, api.East}} {
			turned := slices.Clone(way)
			turned[i] = bad
			if Rises(c, turned) {
				t.Errorf("Rises, with %v at place %d", bad, i)
			}
		}
		if Rises(c, slices.Insert(slices.Clone(way), i, way[i])) {
			t.Errorf("Rises, with the place %d twice", i)
		}
		if i > 0 {
			turned := slices.Clone(way)
			turned[i-1], turned[i] = turned[i], turned[i-1]
			if Rises(c, turned) {
				t.Errorf("Rises, with the place %d ahead of its own", i)
			}
		}
	}
}

// P7.1: Sorted of all channels in several rows, each once and more often, with such as are none between.
func TestSorted(t *testing.T) {
	for _, c := range configs() {
		want := modelOf(c).sorted()
		back := slices.Clone(want)
		slices.Reverse(back)
		mixed := slices.Concat(grid.Links(c), want, back)
		for _, node := range beyond(c.W * c.H) {
			mixed = append(mixed, [2]int{node, api.East}, [2]int{0, node}, [2]int{0, api.Local}, [2]int{0, api.West})
		}
		for i, l := range [][][2]int{want, back, grid.Links(c), shuffled(want), mixed, shuffled(mixed)} {
			if got := Sorted(c, l); !slices.Equal(got, want) {
				t.Fatalf("%+v: Sorted of the row %d: %v, want %v", c, i, got, want)
			}
		}
		var some [][2]int
		for i, channel := range want {
			if i%3 == 1 {
				some = append(some, channel)
			}
		}
		if got := Sorted(c, slices.Concat(shuffled(some), some)); !slices.Equal(got, some) {
			t.Fatalf("%+v: Sorted of some: %v, want %v", c, got, some)
		}
	}
	if l := Sorted(of(4, 4), nil); len(l) != 0 {
		t.Errorf("Sorted of none: %v", l)
	}
}

// P7.1: of one rank the node goes ahead of the port: of 4x4 the rank 5 is South's of the node 8 and North's of the node 4.
func TestSortedOfOneRank(t *testing.T) {
	c := of(4, 4)
	north, south := [2]int{4, api.North}, [2]int{8, api.South}
	upper, lower := [2]int{8, api.North}, [2]int{4, api.South}
	same := of(4, 3) // here the node 4 has both at one rank
	both := [][2]int{{4, api.North}, {4, api.South}}
	for _, x := range []struct {
		c    api.Config
		want [][2]int
	}{{c, [][2]int{north, south}}, {c, [][2]int{lower, upper}}, {same, both}} {
		back := [][2]int{x.want[1], x.want[0]}
		if Less(x.c, x.want[0], x.want[1]) || Less(x.c, x.want[1], x.want[0]) {
			t.Errorf("%v aren't of one rank", x.want)
		}
		if l := Sorted(x.c, x.want); !slices.Equal(l, x.want) {
			t.Errorf("Sorted of %v: %v", x.want, l)
		}
		if l := Sorted(x.c, back); !slices.Equal(l, x.want) {
			t.Errorf("Sorted of %v: %v", back, l)
		}
	}
}

// P7.1: whatever else a config has, the ranks are the same, if it may be.
func TestOtherNumbersTurnNothing(t *testing.T) {
	c := of(4, 3)
	for _, more := range []api.Config{
		{W: 4, H: 3, Lanes: 1, Depth: 1, Ring: 1, Inbox: 1, Bound: 1},
		{W: 4, H: 3, Lanes: 8, Depth: 64, Ring: 64, Inbox: 64, Bound: 16, West: true, Cast: true},
	} {
		for _, x := range grid.Links(c) {
			n, ok := Of(c, x[0], x[1])
			if m, is := Of(more, x[0], x[1]); m != n || is != ok {
				t.Errorf("%+v: Of(%d, %d): %d, %v", more, x[0], x[1], m, is)
			}
		}
		if Most(more) != Most(c) || !slices.Equal(Sorted(more, grid.Links(c)), Sorted(c, grid.Links(c))) {
			t.Errorf("%+v: other ranks", more)
		}
	}
}

// holdWays goes by options to a node, from where a packet is, having come by a channel, and holds each step's rank to be greater.
func holdWays(t *testing.T, c api.Config, came [2]int, at, to int, seen map[[2]int]bool) {
	if seen[came] {
		return
	}
	seen[came] = true
	for _, port := range turn.Options(c, at, to) {
		next, _ := grid.Beside(c, at, port)
		goes := [2]int{at, port}
		if port == api.Local {
			continue
		}
		if came[1] != api.Local && !Less(c, came, goes) {
			t.Fatalf("%+v: to %d: %v comes ahead of %v", c, to, came, goes)
		}
		holdWays(t, c, goes, next, to, seen)
	}
}

// P7.2: from each node to each one, by whatever options, each channel's rank is greater than that of the one ahead.
func TestPacketsRise(t *testing.T) {
	for _, c := range configs() {
		n := c.W * c.H
		for to := range n {
			if n > 30 && to%11 != 0 && to != n-1 {
				continue
			}
			seen := map[[2]int]bool{}
			for at := range n {
				holdWays(t, c, [2]int{at, api.Local}, at, to, seen)
			}
		}
	}
}

// wayBy tells the channels of a packet whose choices are a number's, place by place.
func wayBy(c api.Config, at, to, choices int) [][2]int {
	var way [][2]int
	for at != to {
		port, _ := turn.Choose(c, at, to, choices)
		choices /= 2
		way = append(way, [2]int{at, port})
		at, _ = grid.Beside(c, at, port)
	}
	return way
}

// P7.2: whole ways, by choices of several kinds, and those along x first, rise; backward they don't.
func TestWaysRise(t *testing.T) {
	for _, s := range [][2]int{{5, 5}, {1, 9}, {9, 1}, {13, 7}} {
		for _, west := range []bool{false, true} {
			c := of(s[0], s[1])
			c.West = west
			for at := range c.W * c.H {
				for to := range c.W * c.H {
					for _, choices := range []int{0, 0x5555, 0x3333, 0x0ff0, math.MaxInt} {
						way := wayBy(c, at, to, choices)
						if !Rises(c, way) || len(Sorted(c, way)) != len(way) {
							t.Fatalf("%+v: from %d to %d: %v doesn't rise", c, at, to, way)
						}
						slices.Reverse(way)
						if len(way) > 1 && Rises(c, way) {
							t.Fatalf("%+v: from %d to %d: %v rises", c, at, to, way)
						}
					}
				}
			}
		}
	}
	c := of(64, 64)
	c.West = true
	for _, x := range [][2]int{{0, 4095}, {4095, 0}, {63, 4032}, {4032, 63}} {
		if way := wayBy(c, x[0], x[1], 0x2aaaaaaaaaaaaaaa); len(way) != 126 || !Rises(c, way) {
			t.Errorf("64x64: from %d to %d: %v", x[0], x[1], way)
		}
	}
}

// P7.2: no allowed turn leads from a channel to one that isn't behind it, so there is no ring of waiting, whichever packets there are.
func TestAllowedTurnsRise(t *testing.T) {
	for _, c := range append(configs(), of(64, 64)) {
		for _, came := range grid.Links(c) {
			at, _ := grid.Beside(c, came[0], came[1])
			for _, port := range grid.Ports(c, at) {
				if turn.Allowed(came[1], port) && !Less(c, came, [2]int{at, port}) {
					t.Fatalf("%+v: %v comes ahead of port %d of %d", c, came, port, at)
				}
			}
		}
	}
}

// P7.1, R4, R6: what is handed in stays as it is, also behind its end; what is answered is new memory each time.
func TestListsAreLeftAndNew(t *testing.T) {
	c := of(4, 4)
	room := [][2]int{{0, api.East}, {3, api.West}, {0, api.East}, {0, api.Local}, {3, api.West}, {9, 9}, {8, 8}}
	was, given := slices.Clone(room), room[:5]
	want := [][2]int{{3, api.West}, {0, api.East}}
	first := Sorted(c, given)
	if !slices.Equal(first, want) || !slices.Equal(room, was) {
		t.Errorf("Sorted: %v, of %v", first, room)
	}
	Rises(c, given)
	for i := range first {
		first[i] = [2]int{9, 9}
	}
	_ = append(first, [2]int{9, 9})
	if l := Sorted(c, given); !slices.Equal(l, want) || !slices.Equal(room, was) {
		t.Errorf("Sorted again: %v, of %v", l, room)
	}
	sorted := slices.Clone(want)
	second := Sorted(c, sorted) // nothing to drop and nothing to move: new memory all the same
	second[0] = [2]int{9, 9}
	if !slices.Equal(sorted, want) {
		t.Errorf("Sorted of what is sorted: it shares memory with what it was given")
	}
}
