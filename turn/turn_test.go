package turn

import (
	"math"
	"slices"
	"testing"

	"reticule/api"
	"reticule/grid"
)

// of tells a config that may be, of that size.
func of(w, h int, west bool) api.Config {
	return api.Config{W: w, H: h, Lanes: 2, Depth: 2, Ring: 4, Inbox: 8, Bound: 4, West: west}
}

// configs are of small sizes, all of them, and of some that are long, each along x first and West first.
func configs() []api.Config {
	var l []api.Config
	for _, west := range []bool{false, true} {
		for w := 1; w <= 5; w++ {
			for h := 1; h <= 5; h++ {
				l = append(l, of(w, h, west))
			}
		}
		for _, s := range [][2]int{{1, 64}, {64, 1}, {2, 64}, {64, 2}, {13, 7}} {
			l = append(l, of(s[0], s[1], west))
		}
	}
	return l
}

// wrong are configs that may not be, each by one of its numbers.
func wrong() []api.Config {
	var l []api.Config
	for _, turn := range []func(c *api.Config){
		func(c *api.Config) { c.W = 0 },
		func(c *api.Config) { c.W = 65 },
		func(c *api.Config) { c.H = 0 },
		func(c *api.Config) { c.H = 65 },
		func(c *api.Config) { c.W, c.H = -4, -4 },
		func(c *api.Config) { c.Lanes = 0 },
		func(c *api.Config) { c.Lanes, c.Cast = 1, true },
		func(c *api.Config) { c.Depth = 65 },
		func(c *api.Config) { c.Ring = 0 },
		func(c *api.Config) { c.Inbox = 65 },
		func(c *api.Config) { c.Bound = 17 },
	} {
		for _, west := range []bool{false, true} {
			c := of(4, 4, west)
			turn(&c)
			l = append(l, c)
		}
	}
	return l
}

// beyond are numbers that are none of those from 0 to the limit less 1, such as are if they are cut to fewer bits among them.
func beyond(limit int) []int {
	return []int{math.MinInt, math.MinInt + 1, math.MinInt32, -limit, -2, -1, limit, limit + 1, 2 * limit, math.MaxInt32, 1 << 32, 1<<32 + 1, 1 << 62, math.MaxInt}
}

// choices are small numbers of both signs, and the least and the greatest there are.
func choices() []int {
	l := []int{math.MinInt, math.MinInt + 1, math.MinInt32, math.MinInt32 - 1, math.MaxInt32, 1 << 32, math.MaxInt - 1, math.MaxInt}
	for n := -7; n <= 7; n++ {
		l = append(l, n)
	}
	return l
}

// wantOptions is what the document says, one by one.
func wantOptions(c api.Config, at, to int) []int {
	ax, ay, bx, by := at%c.W, at/c.W, to%c.W, to/c.W
	var x, y []int
	if bx < ax {
		x = append(x, 2)
	}
	if bx > ax {
		x = append(x, 1)
	}
	if by > ay {
		y = append(y, 3)
	}
	if by < ay {
		y = append(y, 4)
	}
	switch {
	case at == to:
		return []int{0}
	case c.West && bx < ax:
		return []int{2}
	case c.West:
		return append(x, y...)
	case bx != ax:
		return x
	}
	return y
}

// wantChoice counts choices from 0 on upward, and from -1 on downward.
func wantChoice(options []int, choice int) int {
	far := uint64(choice)
	if choice < 0 {
		far = ^far
	}
	return options[far%uint64(len(options))]
}

func wantStraight(c api.Config, at, to int) []int {
	ax, ay, bx, by := at%c.W, at/c.W, to%c.W, to/c.W
	var l []int
	for ; ax < bx; ax++ {
		l = append(l, 1)
	}
	for ; ax > bx; ax-- {
		l = append(l, 2)
	}
	for ; ay < by; ay++ {
		l = append(l, 3)
	}
	for ; ay > by; ay-- {
		l = append(l, 4)
	}
	return append(l, 0)
}

// pairs are all pairs of nodes of a config, of long ones those of its first and its last nodes.
func pairs(c api.Config) [][2]int {
	var l [][2]int
	n := c.W * c.H
	for at := range n {
		for to := range n {
			if n <= 30 || at < 4 || at >= n-4 || to < 4 || to >= n-4 {
				l = append(l, [2]int{at, to})
			}
		}
	}
	return l
}

// P6.1: Options and Choose of each pair of nodes, of both ways.
func TestOptionsAndChoose(t *testing.T) {
	for _, c := range configs() {
		for _, x := range pairs(c) {
			want := wantOptions(c, x[0], x[1])
			if l := Options(c, x[0], x[1]); !slices.Equal(l, want) {
				t.Fatalf("%+v: Options(%d, %d): %v, want %v", c, x[0], x[1], l, want)
			}
			for _, choice := range choices() {
				if p, ok := Choose(c, x[0], x[1], choice); p != wantChoice(want, choice) || !ok {
					t.Fatalf("%+v: Choose(%d, %d, %d): %d, %v, want %d", c, x[0], x[1], choice, p, ok, wantChoice(want, choice))
				}
			}
		}
	}
}

// P6.1: Straight of each pair of nodes is along x first, of a config whose packets go West first too.
func TestStraight(t *testing.T) {
	for _, c := range configs() {
		for _, x := range pairs(c) {
			want := wantStraight(c, x[0], x[1])
			if l := Straight(c, x[0], x[1]); !slices.Equal(l, want) {
				t.Fatalf("%+v: Straight(%d, %d): %v, want %v", c, x[0], x[1], l, want)
			}
		}
	}
}

// holdNone asks all calls of a node that isn't there.
func holdNone(t *testing.T, c api.Config, at, to int) {
	t.Helper()
	if l := Options(c, at, to); len(l) != 0 {
		t.Errorf("%+v: Options(%d, %d): %v", c, at, to, l)
	}
	if l := Straight(c, at, to); len(l) != 0 {
		t.Errorf("%+v: Straight(%d, %d): %v", c, at, to, l)
	}
	for _, choice := range choices() {
		if p, ok := Choose(c, at, to, choice); p != 0 || ok {
			t.Errorf("%+v: Choose(%d, %d, %d): %d, %v", c, at, to, choice, p, ok)
		}
	}
}

// P6.1: there is nothing to answer, where the one node isn't there, or the other one, or both, though they be the same.
func TestNodesThatAreNone(t *testing.T) {
	for _, c := range configs() {
		for _, none := range beyond(c.W * c.H) {
			for _, node := range []int{0, c.W*c.H - 1, c.W * c.H / 2} {
				holdNone(t, c, none, node)
				holdNone(t, c, node, none)
			}
			holdNone(t, c, none, none)
			holdNone(t, c, none, -none)
		}
	}
}

// P6.1: a config that may not be has no node, whichever of its numbers is wrong.
func TestConfigsThatMayNotBe(t *testing.T) {
	for _, c := range append(wrong(), api.Config{}, api.Config{W: 4, H: 4}) {
		for _, n := range append(beyond(16), 0, 1, 5, 15) {
			holdNone(t, c, n, n)
			holdNone(t, c, 0, n)
			holdNone(t, c, n, 0)
		}
	}
}

// P6.1: Allowed of all ports, row by row as it stands in the document, and of numbers that are none.
func TestAllowed(t *testing.T) {
	want := map[int][]int{
		api.Local: {api.Local, api.East, api.West, api.North, api.South},
		api.East:  {api.Local, api.East, api.North, api.South},
		api.West:  {api.Local, api.West, api.North, api.South},
		api.North: {api.Local, api.East, api.North},
		api.South: {api.Local, api.East, api.South},
	}
	ports := append(beyond(5), 0, 1, 2, 3, 4)
	for _, from := range ports {
		for _, to := range ports {
			if may := slices.Contains(want[from], to); Allowed(from, to) != may {
				t.Errorf("Allowed(%d, %d): %v, want %v", from, to, !may, may)
			}
		}
	}
}

// P6.1: answers that were written down by hand, the chapter's example first.
func TestByHand(t *testing.T) {
	for _, x := range []struct {
		west     bool
		at, to   int
		options  []int
		straight []int
	}{
		{true, 0, 5, []int{api.East, api.North}, []int{api.East, api.North, api.Local}},
		{false, 0, 5, []int{api.East}, []int{api.East, api.North, api.Local}},
		{true, 5, 0, []int{api.West}, []int{api.West, api.South, api.Local}},
		{false, 5, 0, []int{api.West}, []int{api.West, api.South, api.Local}},
		{true, 8, 1, []int{api.East, api.South}, []int{api.East, api.South, api.South, api.Local}},
		{true, 3, 4, []int{api.West}, []int{api.West, api.West, api.West, api.North, api.Local}},
		{true, 4, 3, []int{api.East, api.South}, []int{api.East, api.East, api.East, api.South, api.Local}},
		{true, 12, 15, []int{api.East}, []int{api.East, api.East, api.East, api.Local}},
		{true, 2, 14, []int{api.North}, []int{api.North, api.North, api.North, api.Local}},
		{false, 14, 2, []int{api.South}, []int{api.South, api.South, api.South, api.Local}},
		{true, 6, 6, []int{api.Local}, []int{api.Local}},
		{false, 15, 15, []int{api.Local}, []int{api.Local}},
		{true, 15, 16, nil, nil},
		{false, -1, -1, nil, nil},
	} {
		c := of(4, 4, x.west)
		if l := Options(c, x.at, x.to); !slices.Equal(l, x.options) {
			t.Errorf("Options from %d to %d, West %v: %v", x.at, x.to, x.west, l)
		}
		if l := Straight(c, x.at, x.to); !slices.Equal(l, x.straight) {
			t.Errorf("Straight from %d to %d, West %v: %v", x.at, x.to, x.west, l)
		}
	}
	for choice, want := range map[int]int{
		0: api.East, 1: api.North, 2: api.East, 3: api.North, math.MaxInt: api.North,
		-1: api.East, -2: api.North, -3: api.East, -4: api.North, math.MinInt: api.North,
	} {
		if p, ok := Choose(of(4, 4, true), 0, 5, choice); p != want || !ok {
			t.Errorf("Choose %d: %d, %v", choice, p, ok)
		}
	}
	l := Straight(of(64, 64, true), 63, 4032)
	if len(l) != 127 || l[0] != api.West || l[62] != api.West || l[63] != api.North || l[125] != api.North || l[126] != api.Local {
		t.Errorf("64x64: Straight from corner to corner: %v", l)
	}
}

// P6.1: whatever else a config has, the ways are the same, if it may be.
func TestOtherNumbersTurnNothing(t *testing.T) {
	for _, west := range []bool{false, true} {
		c := of(4, 3, west)
		for _, more := range []api.Config{
			{W: 4, H: 3, Lanes: 1, Depth: 1, Ring: 1, Inbox: 1, Bound: 1, West: west},
			{W: 4, H: 3, Lanes: 8, Depth: 64, Ring: 64, Inbox: 64, Bound: 16, West: west, Cast: true},
		} {
			for _, x := range pairs(c) {
				if !slices.Equal(Options(c, x[0], x[1]), Options(more, x[0], x[1])) || !slices.Equal(Straight(c, x[0], x[1]), Straight(more, x[0], x[1])) {
					t.Fatalf("%+v: from %d to %d: another way", more, x[0], x[1])
				}
			}
		}
	}
}

// P6.2: each option leads to a node that is there and one step nearer; Local is told just where the packet is there.
func TestOptionsLeadNearer(t *testing.T) {
	for _, c := range configs() {
		for _, x := range pairs(c) {
			l := Options(c, x[0], x[1])
			if len(l) < 1 || len(l) > 2 || slices.Contains(l, api.Local) != (x[0] == x[1]) {
				t.Fatalf("%+v: Options(%d, %d): %v", c, x[0], x[1], l)
			}
			for _, port := range l {
				next, ok := grid.Beside(c, x[0], port)
				if !ok || grid.Far(c, next, x[1]) != max(grid.Far(c, x[0], x[1])-1, 0) {
					t.Fatalf("%+v: Options(%d, %d): %d leads to %d, %v", c, x[0], x[1], port, next, ok)
				}
			}
		}
	}
}

// takeTurns notes all turns that packets take that go by options to a node, from where they are, having come through a port.
func takeTurns(c api.Config, from, at, to int, seen map[[2]int]bool, taken map[[2]int]bool) {
	if seen[[2]int{from, at}] {
		return
	}
	seen[[2]int{from, at}] = true
	for _, port := range Options(c, at, to) {
		taken[[2]int{from, port}] = true
		if next, ok := grid.Beside(c, at, port); ok && port != api.Local {
			takeTurns(c, port, next, to, seen, taken)
		}
	}
}

// P6.2: packets that go by options, from each node to each one, take allowed turns alone; and each allowed turn is one that some packet takes, by the one way or the other.
func TestPacketsTakeAllowedTurnsAlone(t *testing.T) {
	taken := map[[2]int]bool{}
	for _, c := range configs() {
		n := c.W * c.H
		for to := range n {
			if n > 30 && to%11 != 0 && to != n-1 {
				continue
			}
			seen := map[[2]int]bool{}
			for at := range n {
				takeTurns(c, api.Local, at, to, seen, taken)
			}
		}
	}
	for from := range api.Ports {
		for to := range api.Ports {
			if took := taken[[2]int{from, to}]; took != Allowed(from, to) {
				t.Errorf("from %d to %d: taken %v, allowed %v", from, to, took, !took)
			}
		}
	}
}

// P6.2: Straight leads there, each of its ports one of the options along x first, Local at its end alone.
func TestStraightLeadsThere(t *testing.T) {
	for _, c := range configs() {
		first := c
		first.West = false
		for _, x := range pairs(c) {
			at, from := x[0], api.Local
			l := Straight(c, x[0], x[1])
			for i, port := range l {
				next, ok := grid.Beside(c, at, port)
				if !ok || !Allowed(from, port) || !slices.Contains(Options(first, at, x[1]), port) || (port == api.Local) != (i == len(l)-1) {
					t.Fatalf("%+v: Straight(%d, %d): %v, at place %d", c, x[0], x[1], l, i)
				}
				at, from = next, port
			}
			if at != x[1] || len(l) != grid.Far(c, x[0], x[1])+1 {
				t.Fatalf("%+v: Straight(%d, %d): %v", c, x[0], x[1], l)
			}
		}
	}
}

// P6.1, R4, R6: a list that is answered is new memory each time.
func TestListsAreNew(t *testing.T) {
	c := of(4, 4, true)
	options, straight := Options(c, 0, 5), Straight(c, 0, 5)
	for _, l := range [][]int{options, straight, Options(c, 0, 1), Options(c, 0, 0)} {
		for i := range l {
			l[i] = 9
		}
		_ = append(l, 9, 9)
	}
	if l := Options(c, 0, 5); !slices.Equal(l, []int{api.East, api.North}) {
		t.Errorf("Options: %v", l)
	}
	if l := Straight(c, 0, 5); !slices.Equal(l, []int{api.East, api.North, api.Local}) {
		t.Errorf("Straight: %v", l)
	}
	if p, ok := Choose(c, 0, 5, 1); p != api.North || !ok {
		t.Errorf("Choose: %d, %v", p, ok)
	}
}
