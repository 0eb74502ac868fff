package grid

import (
	"math"
	"slices"
	"testing"

	"reticule/api"
)

// of tells a config that may be, of that size.
func of(w, h int) api.Config {
	return api.Config{W: w, H: h, Lanes: 2, Depth: 2, Ring: 4, Inbox: 8, Bound: 4}
}

// sizes are small ones, all of them, and such as are long, odd, and the greatest there are.
func sizes() [][2]int {
	l := [][2]int{{1, 64}, {64, 1}, {2, 64}, {64, 2}, {63, 5}, {7, 16}}
	for w := 1; w <= 6; w++ {
		for h := 1; h <= 6; h++ {
			l = append(l, [2]int{w, h})
		}
	}
	return l
}

// wrong are configs that may not be, by each of their numbers, though most of them have a W and an H that may be.
func wrong() []api.Config {
	l := []api.Config{{}, {W: 4, H: 4}}
	for _, turn := range []func(c *api.Config){
		func(c *api.Config) { c.W = 0 },
		func(c *api.Config) { c.W = -4 },
		func(c *api.Config) { c.W = 65 },
		func(c *api.Config) { c.W = math.MaxInt },
		func(c *api.Config) { c.W = math.MinInt },
		func(c *api.Config) { c.H = 0 },
		func(c *api.Config) { c.H = -4 },
		func(c *api.Config) { c.H = 65 },
		func(c *api.Config) { c.W, c.H = -4, -4 },
		func(c *api.Config) { c.W, c.H = 128, 2 },
		func(c *api.Config) { c.Lanes = 0 },
		func(c *api.Config) { c.Lanes = 9 },
		func(c *api.Config) { c.Lanes, c.Cast = 1, true },
		func(c *api.Config) { c.Depth = 0 },
		func(c *api.Config) { c.Ring = 65 },
		func(c *api.Config) { c.Inbox = 0 },
		func(c *api.Config) { c.Bound = 17 },
	} {
		c := of(4, 4)
		turn(&c)
		l = append(l, c)
	}
	return l
}

// around are numbers from below 0 to past the limit, and such as are within if they are cut to fewer bits or go round.
func around(limit int) []int {
	l := []int{math.MinInt, math.MinInt + 1, math.MinInt32, -limit, math.MaxInt32, 1 << 32, 1<<32 + 1, 1 << 62, math.MaxInt - 1, math.MaxInt}
	for n := -3; n < limit+3; n++ {
		l = append(l, n)
	}
	return l
}

// model has the place of each node: along x, line by line, as one counts them.
type model [][2]int

func modelOf(c api.Config) model {
	var m model
	for y := range c.H {
		for x := range c.W {
			m = append(m, [2]int{x, y})
		}
	}
	return m
}

// at is -1, where there is no node.
func (m model) at(x, y int) int {
	return slices.Index(m, [2]int{x, y})
}

// beside is what the document says, one by one.
func (m model) beside(node, port int) (int, bool) {
	if node < 0 || node >= len(m) {
		return 0, false
	}
	x, y := m[node][0], m[node][1]
	there := -1
	switch port {
	case 0:
		there = node
	case 1:
		there = m.at(x+1, y)
	case 2:
		there = m.at(x-1, y)
	case 3:
		there = m.at(x, y+1)
	case 4:
		there = m.at(x, y-1)
	}
	return max(there, 0), there >= 0
}

func (m model) ports(node int) []int {
	var l []int
	for port := 1; port <= 4; port++ {
		if _, ok := m.beside(node, port); ok {
			l = append(l, port)
		}
	}
	return l
}

// P5.1: Is and Place of each node, and of numbers that are none.
func TestNodesAndTheirPlaces(t *testing.T) {
	for _, s := range append(sizes(), [2]int{64, 64}) {
		c := of(s[0], s[1])
		m := modelOf(c)
		for _, node := range around(len(m)) {
			is := node >= 0 && node < len(m)
			if Is(c, node) != is {
				t.Fatalf("%dx%d: Is(%d): %v", c.W, c.H, node, !is)
			}
			want, we := [2]int{}, api.ErrNode
			if is {
				want, we = m[node], api.OK
			}
			if x, y, e := Place(c, node); [2]int{x, y} != want || e != we {
				t.Fatalf("%dx%d: Place(%d): %d, %d, error %d, want %v, error %d", c.W, c.H, node, x, y, e, want, we)
			}
		}
	}
}

// P5.1: At of each place, and of such as are beyond each side, though the sum of both would be a node's number.
func TestAt(t *testing.T) {
	for _, s := range sizes() {
		c := of(s[0], s[1])
		m := modelOf(c)
		for _, x := range around(c.W) {
			for _, y := range around(c.H) {
				want, we := m.at(x, y), api.OK
				if want < 0 {
					want, we = 0, api.ErrNode
				}
				if n, e := At(c, x, y); n != want || e != we {
					t.Fatalf("%dx%d: At(%d, %d): %d, error %d, want %d, error %d", c.W, c.H, x, y, n, e, want, we)
				}
			}
		}
	}
}

// P5.1: what is beside each node, and each number that is none, by each port, and by numbers that are none.
func TestBesideAndPorts(t *testing.T) {
	for _, s := range sizes() {
		c := of(s[0], s[1])
		m := modelOf(c)
		for _, node := range around(len(m)) {
			for _, port := range around(5) {
				want, is := m.beside(node, port)
				if n, ok := Beside(c, node, port); n != want || ok != is {
					t.Fatalf("%dx%d: Beside(%d, %d): %d, %v, want %d, %v", c.W, c.H, node, port, n, ok, want, is)
				}
			}
			if l := Ports(c, node); !slices.Equal(l, m.ports(node)) {
				t.Fatalf("%dx%d: Ports(%d): %v, want %v", c.W, c.H, node, l, m.ports(node))
			}
		}
	}
}

// P5.1: the channels, by nodes, then by ports.
func TestLinks(t *testing.T) {
	for _, s := range sizes() {
		c := of(s[0], s[1])
		m := modelOf(c)
		var want [][2]int
		for node := range m {
			for _, port := range m.ports(node) {
				want = append(want, [2]int{node, port})
			}
		}
		if l := Links(c); !slices.Equal(l, want) {
			t.Fatalf("%dx%d: Links: %v, want %v", c.W, c.H, l, want)
		}
	}
	// Two ways between any two beside one another: 64 times 63 of them along x, and as many along y.
	l := Links(of(64, 64))
	if len(l) != 4*64*63 || l[0] != [2]int{0, api.East} || l[len(l)-1] != [2]int{4095, api.South} || !slices.IsSortedFunc(l, func(a, b [2]int) int { return slices.Compare(a[:], b[:]) }) {
		t.Errorf("64x64: %d links", len(l))
	}
}

// P5.1: the port back of each, and of numbers that are none.
func TestBack(t *testing.T) {
	want := map[int]int{api.Local: api.Local, api.East: api.West, api.West: api.East, api.North: api.South, api.South: api.North}
	for _, port := range around(5) {
		w, is := want[port]
		if !is {
			w = -1
		}
		if b := Back(port); b != w {
			t.Errorf("Back(%d): %d, want %d", port, b, w)
		}
	}
}

// P5.1: answers that were written down by hand, those of the chapter's example among them.
func TestByHand(t *testing.T) {
	c := of(4, 4)
	if x, y, e := Place(c, 5); x != 1 || y != 1 || e != api.OK {
		t.Errorf("Place of 5: %d, %d, error %d", x, y, e)
	}
	if n, e := At(c, 1, 1); n != 5 || e != api.OK {
		t.Errorf("At 1, 1: %d, error %d", n, e)
	}
	for port, want := range []int{5, 6, 4, 9, 1} {
		if n, ok := Beside(c, 5, port); n != want || !ok {
			t.Errorf("Beside 5 by %d: %d, %v", port, n, ok)
		}
	}
	for node, want := range map[int][]int{
		0: {1, 3}, 1: {1, 2, 3}, 3: {2, 3}, 4: {1, 3, 4}, 5: {1, 2, 3, 4}, 7: {2, 3, 4}, 12: {1, 4}, 14: {1, 2, 4}, 15: {2, 4}, 16: nil, -1: nil,
	} {
		if l := Ports(c, node); !slices.Equal(l, want) {
			t.Errorf("Ports of %d: %v, want %v", node, l, want)
		}
	}
	// A line's last node isn't beside the first one of the next line, though their numbers follow one another.
	for _, x := range [][2]int{{3, api.East}, {4, api.West}, {0, api.South}, {12, api.North}, {15, api.East}, {0, api.West}} {
		if n, ok := Beside(c, x[0], x[1]); n != 0 || ok {
			t.Errorf("Beside %d by %d: %d, %v", x[0], x[1], n, ok)
		}
	}
	if l := Links(of(2, 1)); !slices.Equal(l, [][2]int{{0, api.East}, {1, api.West}}) {
		t.Errorf("2x1: %v", l)
	}
	if l := Links(of(1, 2)); !slices.Equal(l, [][2]int{{0, api.North}, {1, api.South}}) {
		t.Errorf("1x2: %v", l)
	}
	if n, ok := Beside(of(1, 1), 0, api.Local); n != 0 || !ok || len(Links(of(1, 1))) != 0 || len(Ports(of(1, 1), 0)) != 0 {
		t.Errorf("1x1: %d, %v", n, ok)
	}
	for _, x := range [][3]int{{0, 15, 6}, {15, 0, 6}, {3, 12, 6}, {5, 5, 0}, {3, 4, 4}, {5, 6, 1}, {6, 5, 1}, {5, 9, 1}, {0, 16, -1}, {16, 0, -1}, {-1, 0, -1}, {-1, -1, -1}, {16, 16, -1}} {
		if n := Far(c, x[0], x[1]); n != x[2] {
			t.Errorf("Far from %d to %d: %d, want %d", x[0], x[1], n, x[2])
		}
	}
	if n := Far(of(64, 64), 63, 4032); n != 126 {
		t.Errorf("64x64: Far from corner to corner: %d", n)
	}
}

// P5.2: who is beside one has it beside, by the port back; none is beside another one by two ports, and none but itself by Local.
func TestBesideIsBothWays(t *testing.T) {
	for _, s := range append(sizes(), [2]int{64, 64}) {
		c := of(s[0], s[1])
		for node := range c.W * c.H {
			seen := []int{}
			for port := range api.Ports {
				n, ok := Beside(c, node, port)
				if !ok {
					continue
				}
				if back, ok := Beside(c, n, Back(port)); back != node || !ok || Back(Back(port)) != port {
					t.Fatalf("%dx%d: %d is beside %d by %d, but not the other way: %d, %v", c.W, c.H, n, node, port, back, ok)
				}
				if slices.Contains(seen, n) || (n == node) != (port == api.Local) {
					t.Fatalf("%dx%d: %d is beside %d by two ports", c.W, c.H, n, node)
				}
				seen = append(seen, n)
			}
		}
	}
}

// stepsFrom tells how many steps it takes to each node, by trying all ways, nearer ones first.
func stepsFrom(m model, from int) []int {
	l := slices.Repeat([]int{-1}, len(m))
	l[from] = 0
	next := []int{from}
	for len(next) > 0 {
		node := next[0]
		next = next[1:]
		for _, port := range m.ports(node) {
			if n, _ := m.beside(node, port); l[n] < 0 {
				l[n] = l[node] + 1
				next = append(next, n)
			}
		}
	}
	return l
}

// P5.1, P5.2: Far is the least number of steps, and -1 if one of both isn't there.
func TestFar(t *testing.T) {
	for _, s := range sizes() {
		c := of(s[0], s[1])
		m := modelOf(c)
		for a := range m {
			if a > 40 && a < len(m)-5 {
				continue
			}
			for b, want := range stepsFrom(m, a) {
				if n := Far(c, a, b); n != want {
					t.Fatalf("%dx%d: Far(%d, %d): %d, want %d", c.W, c.H, a, b, n, want)
				}
			}
			for _, b := range around(len(m)) {
				if b >= 0 && b < len(m) {
					continue
				}
				if n, back, both := Far(c, a, b), Far(c, b, a), Far(c, b, b); n != -1 || back != -1 || both != -1 {
					t.Fatalf("%dx%d: Far of %d and %d: %d, %d, %d", c.W, c.H, a, b, n, back, both)
				}
			}
		}
	}
}

// P5.1: of a config that may not be there is no node, whichever of its numbers is wrong.
func TestConfigsThatMayNotBe(t *testing.T) {
	for _, c := range wrong() {
		for _, n := range []int{math.MinInt, -1, 0, 1, 5, 15, math.MaxInt} {
			if Is(c, n) {
				t.Errorf("%+v: Is(%d)", c, n)
			}
			if a, e := At(c, n, 0); a != 0 || e != api.ErrNode {
				t.Errorf("%+v: At(%d, 0): %d, error %d", c, n, a, e)
			}
			if a, e := At(c, 1, n); a != 0 || e != api.ErrNode {
				t.Errorf("%+v: At(1, %d): %d, error %d", c, n, a, e)
			}
			if x, y, e := Place(c, n); x != 0 || y != 0 || e != api.ErrNode {
				t.Errorf("%+v: Place(%d): %d, %d, error %d", c, n, x, y, e)
			}
			for _, port := range around(5) {
				if a, ok := Beside(c, n, port); a != 0 || ok {
					t.Errorf("%+v: Beside(%d, %d): %d, %v", c, n, port, a, ok)
				}
			}
			if f := Far(c, n, n); f != -1 || Far(c, 0, n) != -1 || Far(c, n, 0) != -1 {
				t.Errorf("%+v: Far(%d, %d): %d", c, n, n, f)
			}
			if l := Ports(c, n); len(l) != 0 {
				t.Errorf("%+v: Ports(%d): %v", c, n, l)
			}
		}
		if l := Links(c); len(l) != 0 {
			t.Errorf("%+v: Links: %d", c, len(l))
		}
	}
}

// P5.1: whatever else a config has, its nodes are the same, if it may be.
func TestOtherNumbersTurnNothing(t *testing.T) {
	c := of(4, 3)
	for _, more := range []api.Config{
		{W: 4, H: 3, Lanes: 1, Depth: 1, Ring: 1, Inbox: 1, Bound: 1},
		{W: 4, H: 3, Lanes: 8, Depth: 64, Ring: 64, Inbox: 64, Bound: 16, West: true, Cast: true},
	} {
		if !slices.Equal(Links(c), Links(more)) || !Is(more, 11) || Is(more, 12) || Far(more, 0, 11) != 5 {
			t.Errorf("%+v: other nodes", more)
		}
	}
}

// P5.1, R4, R6: a list that is answered is new memory each time.
func TestListsAreNew(t *testing.T) {
	c := of(2, 2)
	ports, links := Ports(c, 0), Links(c)
	ports[0], links[0] = 9, [2]int{9, 9}
	if l := Ports(c, 0); !slices.Equal(l, []int{api.East, api.North}) {
		t.Errorf("Ports: %v", l)
	}
	if l := Links(c); l[0] != [2]int{0, api.East} {
		t.Errorf("Links: %v", l)
	}
}
