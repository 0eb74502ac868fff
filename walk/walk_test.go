package walk

import (
	"fmt"
	"math"
	"slices"
	"testing"

	"reticule/api"
	"reticule/grid"
	"reticule/rank"
	"reticule/snake"
	"reticule/turn"
)

// of tells a config that may be, of that size.
func of(w, h int, west bool) api.Config {
	return api.Config{W: w, H: h, Lanes: 2, Depth: 2, Ring: 4, Inbox: 8, Bound: 4, West: west}
}

// configs are of small sizes, all of them, and of some that are long, each along x first and West first.
func configs() []api.Config {
	var l []api.Config
	for _, west := range []bool{false, true} {
		for w := 1; w <= 5; w++ {
			for h := 1; h <= 5; h++ {
				l = append(l, of(w, h, west))
			}
		}
		for _, s := range [][2]int{{1, 64}, {64, 1}, {2, 64}, {64, 2}, {13, 7}} {
			l = append(l, of(s[0], s[1], west))
		}
	}
	return l
}

// wrong are configs that may not be, each by one of its numbers.
func wrong() []api.Config {
	l := []api.Config{{}, {W: 4, H: 4}}
	for _, turn := range []func(c *api.Config){
		func(c *api.Config) { c.W = 0 },
		func(c *api.Config) { c.W = 65 },
		func(c *api.Config) { c.W = math.MaxInt },
		func(c *api.Config) { c.H = 0 },
		func(c *api.Config) { c.H = 65 },
		func(c *api.Config) { c.H = math.MinInt },
		func(c *api.Config) { c.W, c.H = -4, -4 },
		func(c *api.Config) { c.Lanes = 0 },
		func(c *api.Config) { c.Lanes = 9 },
		func(c *api.Config) { c.Lanes, c.Cast = 1, true },
		func(c *api.Config) { c.Depth = 65 },
		func(c *api.Config) { c.Ring = 0 },
		func(c *api.Config) { c.Inbox = 65 },
		func(c *api.Config) { c.Bound = 17 },
	} {
		for _, west := range []bool{false, true} {
			c := of(4, 4, west)
			turn(&c)
			l = append(l, c)
		}
	}
	return l
}

// beyond are numbers that are none of those from 0 to the limit less 1, such as are if they are cut to fewer bits among them.
func beyond(limit int) []int {
	return []int{math.MinInt, math.MinInt + 1, math.MinInt32, -limit, -2, -1, limit, limit + 1, 2 * limit, math.MaxInt32, 1 << 32, 1<<32 + 1, 1 << 62, math.MaxInt}
}

// choiceLists are lists of choices, of none to some that are longer than any way of a small mesh.
func choiceLists() [][]int {
	return [][]int{
		nil,
		{},
		{0},
		{1},
		{-1},
		{0, 1},
		{1, 0, 1},
		{0, 1, 1},
		{-2, -1, -2, -4},
		{2, 3, 5, 7, 11, 13},
		{math.MinInt, math.MaxInt, math.MinInt + 1, math.MaxInt - 1, math.MinInt32, 1 << 32},
		slices.Repeat([]int{1}, 30),
		slices.Repeat([]int{0, 1}, 70),
		slices.Repeat([]int{-2, 4, 0}, 70),
	}
}

// bitLists are all lists of so many choices, each 0 or 1.
func bitLists(n int) [][]int {
	var all [][]int
	for bits := range 1 << n {
		var l []int
		for i := range n {
			l = append(l, bits>>i&1)
		}
		all = append(all, l)
	}
	return all
}

// pairs are all pairs of nodes of a config, of long ones those of its first and its last nodes.
func pairs(c api.Config) [][2]int {
	var l [][2]int
	n := c.W * c.H
	for from := range n {
		for to := range n {
			if n <= 30 || (from < 4 || from >= n-4) && (to < 4 || to >= n-4) || (from+n*to)%311 == 5 {
				l = append(l, [2]int{from, to})
			}
		}
	}
	return l
}

// wantWay goes from place to place; where it may go two ways, it is along x by an even choice, counted from 0 on upward, and from -1 on downward.
func wantWay(c api.Config, from, to int, choices []int) []int {
	x, y, toX, toY := from%c.W, from/c.W, to%c.W, to/c.W
	way := []int{from}
	for x != toX || y != toY {
		choice := uint64(0)
		if i := len(way) - 1; i < len(choices) {
			choice = uint64(choices[i])
			if choices[i] < 0 {
				choice = ^choice
			}
		}
		isAlongX := x != toX
		if c.West && toX > x && toY != y {
			isAlongX = choice%2 == 0
		}
		switch {
		case isAlongX && x < toX:
			x++
		case isAlongX:
			x--
		case y < toY:
			y++
		default:
			y--
		}
		way = append(way, y*c.W+x)
	}
	return way
}

// wantPort tells the port from a node to another one by their places; -1, if they aren't beside one another.
func wantPort(c api.Config, from, to int) int {
	switch [2]int{to%c.W - from%c.W, to/c.W - from/c.W} {
	case [2]int{0, 0}:
		return 0
	case [2]int{1, 0}:
		return 1
	case [2]int{-1, 0}:
		return 2
	case [2]int{0, 1}:
		return 3
	case [2]int{0, -1}:
		return 4
	}
	return -1
}

// wantWork counts one by one what is done.
func wantWork(hops []int, bytes int) int {
	ends := slices.Clone(hops) // how far each word goes
	far := hops[len(hops)-1]
	for ends = append(ends, far); bytes > 6; bytes -= 6 {
		ends = append(ends, far)
	}
	work := 0
	for _, end := range ends {
		work++ // put in
		for range end {
			work += 3
		}
		work++ // taken out
	}
	for range far {
		work++ // the way is found
		work++ // a lane is given
	}
	for range hops {
		work++ // known
		work++ // told
	}
	return work
}

func holdWay(t *testing.T, c api.Config, from, to int, choices ...int) {
	t.Helper()
	want := wantWay(c, from, to, choices)
	if got := Way(c, from, to, choices...); !slices.Equal(got, want) {
		t.Fatalf("%dx%d West %v: Way(%d, %d) by %v: %v, want %v", c.W, c.H, c.West, from, to, choices, got, want)
	}
}

// holdPorts asks Ports and Channels of what is a way.
func holdPorts(t *testing.T, c api.Config, way []int) {
	t.Helper()
	var ports []int
	var channels [][2]int
	for i := range max(len(way)-1, 0) {
		ports = append(ports, wantPort(c, way[i], way[i+1]))
		channels = append(channels, [2]int{way[i], ports[i]})
	}
	if got, ok := Ports(c, way); !slices.Equal(got, ports) || !ok {
		t.Fatalf("%dx%d: Ports of %v: %v, %v, want %v", c.W, c.H, way, got, ok, ports)
	}
	if got, ok := Channels(c, way); !slices.Equal(got, channels) || !ok {
		t.Fatalf("%dx%d: Channels of %v: %v, %v, want %v", c.W, c.H, way, got, ok, channels)
	}
}

// holdNoPorts asks Ports and Channels of what is no way.
func holdNoPorts(t *testing.T, c api.Config, way ...int) {
	t.Helper()
	if got, ok := Ports(c, way); len(got) != 0 || ok {
		t.Errorf("%+v: Ports of %v: %v, %v", c, way, got, ok)
	}
	if got, ok := Channels(c, way); len(got) != 0 || ok {
		t.Errorf("%+v: Channels of %v: %v, %v", c, way, got, ok)
	}
}

// holdNone asks Way of what is no node.
func holdNone(t *testing.T, c api.Config, from, to int) {
	t.Helper()
	for _, choices := range choiceLists() {
		if way := Way(c, from, to, choices...); len(way) != 0 {
			t.Errorf("%+v: Way(%d, %d) by %v: %v", c, from, to, choices, way)
		}
	}
}

// P9.1: answers that were written down by hand, the chapter's example first.
func TestByHand(t *testing.T) {
	for _, x := range []struct {
		hops        []int
		bytes, want int
	}{
		{[]int{2}, 6, 22}, {[]int{1}, 1, 14}, {[]int{0}, 0, 6}, {[]int{0}, 6, 6}, {[]int{0}, 7, 8}, {[]int{1}, 0, 14}, {[]int{1}, 7, 19},
		{[]int{2}, 64, 102}, {[]int{126}, 64, 4814}, {[]int{1, 3}, 0, 37}, {[]int{1, 1}, 0, 21}, {[]int{0, 0, 0}, 0, 14}, {[]int{1, 2, 3}, 13, 69},
	} {
		if n := Work(x.hops, x.bytes); n != x.want {
			t.Errorf("Work(%v, %d): %d, want %d", x.hops, x.bytes, n, x.want)
		}
	}
	for _, x := range [][3]int{{1, 0, 2}, {1, 1, 2}, {1, 5, 2}, {1, 6, 2}, {1, 7, 3}, {1, 12, 3}, {1, 13, 4}, {1, 60, 11}, {1, 61, 12}, {1, 64, 12}, {2, 0, 3}, {3, 64, 14}, {4096, 6, 4097}} {
		if n := Words(x[0], x[1]); n != x[2] {
			t.Errorf("Words(%d, %d): %d, want %d", x[0], x[1], n, x[2])
		}
	}
	for _, x := range []struct {
		west     bool
		from, to int
		choices  []int
		way      []int
		ports    []int
	}{
		{true, 0, 5, nil, []int{0, 1, 5}, []int{api.East, api.North}},
		{true, 0, 5, []int{1}, []int{0, 4, 5}, []int{api.North, api.East}},
		{false, 0, 5, []int{1}, []int{0, 1, 5}, []int{api.East, api.North}},
		{true, 0, 10, []int{0, 1, 1}, []int{0, 1, 5, 9, 10}, []int{api.East, api.North, api.North, api.East}},
		{true, 0, 10, []int{-2, -1, -2}, []int{0, 4, 5, 9, 10}, []int{api.North, api.East, api.North, api.East}},
		{true, 0, 10, []int{3, 5}, []int{0, 4, 8, 9, 10}, []int{api.North, api.North, api.East, api.East}},
		{true, 10, 0, []int{1, 1, 1, 1}, []int{10, 9, 8, 4, 0}, []int{api.West, api.West, api.South, api.South}},
		{true, 12, 3, []int{0, 1, 0, 1}, []int{12, 13, 9, 10, 6, 7, 3}, []int{api.East, api.South, api.East, api.South, api.East, api.South}},
		{true, 3, 15, []int{1}, []int{3, 7, 11, 15}, []int{api.North, api.North, api.North}},
		{true, 6, 6, []int{1, 2, 3}, []int{6}, nil},
		{true, 15, 16, []int{1}, nil, nil},
		{false, -1, 0, nil, nil, nil},
	} {
		c := of(4, 4, x.west)
		way := Way(c, x.from, x.to, x.choices...)
		if !slices.Equal(way, x.way) {
			t.Errorf("West %v: Way(%d, %d) by %v: %v, want %v", x.west, x.from, x.to, x.choices, way, x.way)
		}
		if ports, ok := Ports(c, x.way); !slices.Equal(ports, x.ports) || !ok {
			t.Errorf("Ports of %v: %v, %v, want %v", x.way, ports, ok, x.ports)
		}
	}
	channels, ok := Channels(of(4, 4, true), []int{0, 1, 5, 4})
	if !slices.Equal(channels, [][2]int{{0, api.East}, {1, api.North}, {5, api.West}}) || !ok {
		t.Errorf("Channels: %v, %v", channels, ok)
	}
}

// P9.1: Way of each pair of nodes, by lists of choices of any length, and by any numbers.
func TestWay(t *testing.T) {
	for _, c := range configs() {
		for _, x := range pairs(c) {
			for _, choices := range choiceLists() {
				holdWay(t, c, x[0], x[1], choices...)
			}
		}
	}
	for _, c := range []api.Config{of(64, 64, false), of(64, 64, true), of(63, 64, true)} {
		n := c.W * c.H
		for _, x := range [][2]int{{0, n - 1}, {n - 1, 0}, {c.W - 1, n - c.W}, {n - c.W, c.W - 1}, {n / 2, n / 2}} {
			for _, choices := range choiceLists() {
				holdWay(t, c, x[0], x[1], choices...)
			}
		}
	}
}

// P9.1: each number of a list is the choice of its place alone, and behind the list's end all are as 0.
func TestEachChoiceHasItsPlace(t *testing.T) {
	c := of(5, 5, true)
	for place := range 12 {
		for _, choice := range []int{1, -2, math.MinInt + 1, math.MaxInt} {
			choices := make([]int, place+1)
			choices[place] = choice
			holdWay(t, c, 0, 24, choices...)
			holdWay(t, c, 20, 4, append(choices, 0, 1)...)
		}
		ones := slices.Repeat([]int{1}, place)
		if !slices.Equal(Way(c, 0, 24, ones...), Way(c, 0, 24, append(ones, 0, 0, 0)...)) {
			t.Errorf("%d choices: another way than with zeros behind them", place)
		}
	}
}

// P9.1: there is no way, where the one node isn't there, or the other one, or both, though they be the same.
func TestNodesThatAreNone(t *testing.T) {
	for _, c := range configs() {
		for _, none := range beyond(c.W * c.H) {
			for _, node := range []int{0, c.W*c.H - 1} {
				holdNone(t, c, none, node)
				holdNone(t, c, node, none)
				holdNoPorts(t, c, none, node)
				holdNoPorts(t, c, node, none)
			}
			holdNone(t, c, none, none)
			holdNoPorts(t, c, none, none)
			holdNoPorts(t, c, none, none+1, none)
		}
	}
}

// P9.1: a config that may not be has no node, and none that is beside another one, whichever of its numbers is wrong.
func TestConfigsThatMayNotBe(t *testing.T) {
	for _, c := range wrong() {
		for _, node := range append(beyond(16), 0, 1, 5, 15) {
			holdNone(t, c, node, node)
			holdNone(t, c, node, 0)
			holdNone(t, c, 0, node)
			holdNoPorts(t, c, 0, node)
			holdNoPorts(t, c, node, node)
		}
		holdNoPorts(t, c, 0, 1, 5)
	}
}

// P9.1: Ports and Channels of each two nodes: one is beside another one by one port at most, and beside itself by Local.
func TestPortsOfEachTwo(t *testing.T) {
	for _, c := range configs() {
		for _, x := range pairs(c) {
			if wantPort(c, x[0], x[1]) < 0 {
				holdNoPorts(t, c, x[0], x[1])
				holdNoPorts(t, c, x[0], x[0], x[1])
				holdNoPorts(t, c, x[0], x[1], x[1])
			} else {
				holdPorts(t, c, []int{x[0], x[1]})
				holdPorts(t, c, []int{x[0], x[1], x[0], x[0], x[1], x[1]})
			}
		}
	}
}

// P9.1: Ports and Channels of ways for one and for several, and of such as are turned round or go on from their end.
func TestPortsOfWays(t *testing.T) {
	for _, c := range configs() {
		for i, x := range pairs(c) {
			for _, choices := range [][]int{nil, {1}, {0, 1, 1, 0, -2}} {
				way := Way(c, x[0], x[1], choices...)
				holdPorts(t, c, way)
				back := slices.Clone(way)
				slices.Reverse(back)
				holdPorts(t, c, back)
				holdPorts(t, c, slices.Concat(way, back))
			}
			several := snake.Way(c, x[0], x[1], i%(c.W*c.H), 0)
			holdPorts(t, c, several)
		}
	}
}

// P9.1: a way of none or of one node has no step; there is nothing ahead that it isn't beside.
func TestPortsOfNoStep(t *testing.T) {
	for _, c := range append(configs(), wrong()...) {
		for _, way := range [][]int{nil, {}, {0}, {-1}, {c.W * c.H}, {math.MaxInt}} {
			ports, ok := Ports(c, way)
			if len(ports) != 0 || !ok {
				t.Errorf("%+v: Ports of %v: %v, %v", c, way, ports, ok)
			}
			channels, ok := Channels(c, way)
			if len(channels) != 0 || !ok {
				t.Errorf("%+v: Channels of %v: %v, %v", c, way, channels, ok)
			}
		}
	}
}

// P9.1: a way that is broken at one place, whichever, is none.
func TestPortsOfBrokenWays(t *testing.T) {
	for _, west := range []bool{false, true} {
		c := of(5, 4, west)
		way := Way(c, 0, 19, 0, 1, 0, 1)
		for i := range way {
			for _, other := range append(beyond(20), 10, 15) { // neither is beside one of the way
				broken := slices.Clone(way)
				broken[i] = other
				holdNoPorts(t, c, broken...)
				holdNoPorts(t, c, slices.Insert(slices.Clone(way), i, other)...)
			}
			if i > 0 && i < len(way)-1 {
				holdNoPorts(t, c, slices.Delete(slices.Clone(way), i, i+1)...)
			}
		}
		holdNoPorts(t, c, 4, 5) // the last one of a line, and the first one of the next
		holdNoPorts(t, c, 5, 4)
		holdNoPorts(t, c, 0, 6) // both by one
		holdNoPorts(t, c, 0, 2)
		holdNoPorts(t, c, 0, 10)
		holdNoPorts(t, c, 0, -1)
		holdNoPorts(t, c, 15, 20)
	}
}

// P9.1: Words of all bytes there may be.
func TestWords(t *testing.T) {
	for heads := 1; heads < 70; heads++ {
		for bytes := 0; bytes <= 64; bytes++ {
			want := heads + 1
			for rest := bytes; rest > 6; rest -= 6 {
				want++
			}
			if n := Words(heads, bytes); n != want {
				t.Errorf("Words(%d, %d): %d, want %d", heads, bytes, n, want)
			}
		}
	}
	if n := Words(4096, 64); n != 4107 {
		t.Errorf("Words(4096, 64): %d", n)
	}
}

// P9.1: no words: bytes out of 0 to 64, heads below 1, and both.
func TestNoWords(t *testing.T) {
	for _, bytes := range beyond(65) {
		for _, heads := range []int{math.MinInt, -1, 0, 1, 2, 4096, math.MaxInt} {
			if n := Words(heads, bytes); n != -1 {
				t.Errorf("Words(%d, %d): %d", heads, bytes, n)
			}
		}
	}
	for _, heads := range []int{math.MinInt, math.MinInt + 1, math.MinInt32, -64, -1, 0} {
		for bytes := 0; bytes <= 64; bytes++ {
			if n := Words(heads, bytes); n != -1 {
				t.Errorf("Words(%d, %d): %d", heads, bytes, n)
			}
		}
	}
}

// rising tells all lists of so many numbers, each no less than the one ahead, and less than most.
func rising(n, most int) [][]int {
	if n == 0 {
		return [][]int{nil}
	}
	var all [][]int
	for _, l := range rising(n-1, most) {
		for next := slices.Max(append([]int{0}, l...)); next < most; next++ {
			all = append(all, append(slices.Clone(l), next))
		}
	}
	return all
}

// P9.1: Work of one Head and of several, such as go as far among them, by all bytes there may be.
func TestWork(t *testing.T) {
	var lists [][]int
	for n := 1; n <= 4; n++ {
		lists = append(lists, rising(n, 5)...)
	}
	lists = append(lists, []int{126}, []int{4095}, []int{0, 126}, []int{0, 1, 2, 3, 5, 8, 13, 21, 34, 55, 89}, slices.Repeat([]int{7}, 40))
	for _, hops := range lists {
		for bytes := 0; bytes <= 64; bytes++ {
			if n, want := Work(hops, bytes), wantWork(hops, bytes); n != want {
				t.Fatalf("Work(%v, %d): %d, want %d", hops, bytes, n, want)
			}
		}
	}
	var all []int
	for n := range 4096 {
		all = append(all, n)
	}
	if n, want := Work(all, 64), wantWork(all, 64); n != want {
		t.Errorf("Work of 4096 Heads: %d, want %d", n, want)
	}
}

// P9.1: no work: no hops, one below 0, wherever it stands, such as fall, wherever they do, bytes out of 0 to 64.
func TestNoWork(t *testing.T) {
	hold := func(bytes int, hops ...int) {
		t.Helper()
		if n := Work(hops, bytes); n != -1 {
			t.Errorf("Work(%v, %d): %d", hops, bytes, n)
		}
	}
	for _, bytes := range []int{0, 1, 6, 64} {
		hold(bytes)
		hold(bytes, -1)
		hold(bytes, math.MinInt)
		hold(bytes, -1, 0)
		hold(bytes, -2, -1)
		hold(bytes, -1, -1, 5)
		hold(bytes, math.MinInt, math.MaxInt)
		hold(bytes, 3, 1)
		hold(bytes, 1, 0)
		hold(bytes, 3, 1, 3)
		hold(bytes, 3, 1, 4)
		hold(bytes, 1, 2, 3, 2)
		hold(bytes, 0, 0, 0, 1, 0)
	}
	for i := range 8 {
		for _, none := range []int{-1, math.MinInt, 100} {
			hops := slices.Repeat([]int{9}, 8)
			hops[i] = none
			if none < 0 || i < 7 {
				hold(5, hops...)
			}
		}
	}
	for _, bytes := range beyond(65) {
		hold(bytes)
		hold(bytes, 0)
		hold(bytes, 2)
		hold(bytes, -1)
		hold(bytes, 1, 3)
		hold(bytes, 3, 1)
	}
	if n := Work([]int{}, 0); n != -1 {
		t.Errorf("Work of no hops: %d", n)
	}
}

// P9.1: whatever else a config has, the ways are the same, if it may be.
func TestOtherNumbersTurnNothing(t *testing.T) {
	for _, west := range []bool{false, true} {
		for _, c := range []api.Config{
			{W: 4, H: 3, Lanes: 1, Depth: 1, Ring: 1, Inbox: 1, Bound: 1, West: west},
			{W: 4, H: 3, Lanes: 8, Depth: 64, Ring: 64, Inbox: 64, Bound: 16, West: west, Cast: true},
		} {
			for _, x := range pairs(c) {
				for _, choices := range choiceLists() {
					holdWay(t, c, x[0], x[1], choices...)
					holdPorts(t, c, Way(c, x[0], x[1], choices...))
				}
			}
		}
	}
}

// P9.2: a way has as many steps as its ends are far, each to a node that is nearer, by one of the options there, and by allowed turns alone.
func TestWayIsAsLongAsItsEndsAreFar(t *testing.T) {
	for _, c := range configs() {
		for _, x := range pairs(c) {
			for _, choices := range choiceLists() {
				way := Way(c, x[0], x[1], choices...)
				if len(way)-1 != grid.Far(c, x[0], x[1]) || way[0] != x[0] || way[len(way)-1] != x[1] {
					t.Fatalf("%+v: Way(%d, %d): %v", c, x[0], x[1], way)
				}
				ports, _ := Ports(c, way)
				from := api.Local
				for i, port := range ports {
					options := turn.Options(c, way[i], x[1])
					if len(options) > 2 || !slices.Contains(options, port) || !turn.Allowed(from, port) {
						t.Fatalf("%+v: Way(%d, %d): %v, by %d at place %d", c, x[0], x[1], way, port, i)
					}
					from = port
				}
			}
		}
	}
}

// over tells of how many ways one may take so many steps of n.
func over(n, steps int) int {
	if steps == 0 || steps == n {
		return 1
	}
	return over(n-1, steps-1) + over(n-1, steps)
}

// P9.2: each choice is one of few: by all choices one goes all ways there are to the East if it is West first, and else one alone.
func TestAllWays(t *testing.T) {
	for _, c := range []api.Config{of(4, 4, false), of(4, 4, true), of(3, 5, true), of(5, 3, true), of(1, 6, true), of(6, 1, true)} {
		for _, x := range pairs(c) {
			ways := map[string]bool{}
			for _, choices := range bitLists(grid.Far(c, x[0], x[1])) {
				ways[fmt.Sprint(Way(c, x[0], x[1], choices...))] = true
			}
			want, dx := 1, x[1]%c.W-x[0]%c.W
			if c.West && dx > 0 {
				want = over(grid.Far(c, x[0], x[1]), dx)
			}
			if len(ways) != want {
				t.Fatalf("%dx%d West %v: from %d to %d there are %d ways, want %d", c.W, c.H, c.West, x[0], x[1], len(ways), want)
			}
		}
	}
}

// P9.1, P9.2: the channels of a way rise in rank, so that packets wait in no ring; they are channels between nodes, each once.
func TestChannelsOfWaysRise(t *testing.T) {
	for _, c := range configs() {
		links := grid.Links(c)
		for _, x := range pairs(c) {
			for _, choices := range choiceLists() {
				channels, ok := Channels(c, Way(c, x[0], x[1], choices...))
				if !ok || !rank.Rises(c, channels) {
					t.Fatalf("%+v: Channels of the way from %d to %d by %v: %v, %v", c, x[0], x[1], choices, channels, ok)
				}
				for _, channel := range channels {
					if !slices.Contains(links, channel) {
						t.Fatalf("%+v: %v is no channel", c, channel)
					}
				}
			}
		}
	}
}

// P9.1, R4, R6: what is handed in stays as it is, also behind its end; what is answered is new memory each time.
func TestListsAreLeftAndNew(t *testing.T) {
	c := of(4, 4, true)
	room := []int{0, 1, 1, 0, 7, 7, 7, 7}
	want := []int{0, 1, 5, 9, 10}
	for range 2 {
		way := Way(c, 0, 10, room[:3]...)
		if !slices.Equal(way, want) || !slices.Equal(room, []int{0, 1, 1, 0, 7, 7, 7, 7}) {
			t.Errorf("Way: %v, of %v", way, room)
		}
		clear(way)
	}
	if way := Way(c, 0, 10, room[:1]...); !slices.Equal(way, []int{0, 1, 2, 6, 10}) {
		t.Errorf("Way: %v, by what stands behind the list's end", way)
	}
	nodes := append(slices.Clone(want), 99, 99)
	for range 2 {
		ports, _ := Ports(c, nodes[:5])
		channels, _ := Channels(c, nodes[:5])
		if !slices.Equal(ports, []int{api.East, api.North, api.North, api.East}) || !slices.Equal(channels, [][2]int{{0, api.East}, {1, api.North}, {5, api.North}, {9, api.East}}) {
			t.Errorf("Ports: %v, Channels: %v", ports, channels)
		}
		clear(ports)
		clear(channels)
	}
	if !slices.Equal(nodes, []int{0, 1, 5, 9, 10, 99, 99}) {
		t.Errorf("what was handed in was turned: %v", nodes)
	}
	hops := []int{3, 1, 2, 2, 0}
	if n := Work(hops[1:4], 6); n != wantWork([]int{1, 2, 2}, 6) {
		t.Errorf("Work: %d", n)
	}
	Work(hops, 6)
	if !slices.Equal(hops, []int{3, 1, 2, 2, 0}) {
		t.Errorf("what was handed in was turned: %v", hops)
	}
	one := []int{6}
	way := Way(c, 6, 6, one...) // no step: new memory all the same
	way[0] = 9
	if one[0] != 6 {
		t.Errorf("the way shares memory with the choices: %v", one)
	}
}
