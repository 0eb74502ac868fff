package pick

import (
	"math"
	"slices"
	"testing"

	"reticule/api"
)

// of tells a config that may be, of that size, with so many lanes.
func of(w, h, lanes int) api.Config {
	return api.Config{W: w, H: h, Lanes: lanes, Depth: 2, Ring: 4, Inbox: 8, Bound: 4}
}

// sides are those of meshes: small ones, and such as are long.
func sides() [][2]int {
	l := [][2]int{{1, 64}, {64, 1}, {13, 7}}
	for w := 1; w <= 4; w++ {
		for h := 1; h <= 4; h++ {
			l = append(l, [2]int{w, h})
		}
	}
	return l
}

// configs are of all these sides, with each count of lanes.
func configs() []api.Config {
	var l []api.Config
	for _, s := range sides() {
		for lanes := 1; lanes <= api.MaxLanes; lanes++ {
			l = append(l, of(s[0], s[1], lanes))
		}
	}
	return l
}

// wrong are configs that may not be, each by one of its numbers.
func wrong() []api.Config {
	l := []api.Config{{}, {W: 4, H: 4}}
	for _, turn := range []func(c *api.Config){
		func(c *api.Config) { c.W = 0 },
		func(c *api.Config) { c.W = -4 },
		func(c *api.Config) { c.W = 65 },
		func(c *api.Config) { c.W = math.MaxInt },
		func(c *api.Config) { c.H = 0 },
		func(c *api.Config) { c.H = 65 },
		func(c *api.Config) { c.H = math.MinInt },
		func(c *api.Config) { c.W, c.H = -4, -4 },
		func(c *api.Config) { c.Lanes = 0 },
		func(c *api.Config) { c.Lanes = -2 },
		func(c *api.Config) { c.Lanes = 9 },
		func(c *api.Config) { c.Lanes = math.MaxInt },
		func(c *api.Config) { c.Lanes, c.Cast = 1, true },
		func(c *api.Config) { c.Depth = 0 },
		func(c *api.Config) { c.Depth = 65 },
		func(c *api.Config) { c.Ring = 0 },
		func(c *api.Config) { c.Ring = 65 },
		func(c *api.Config) { c.Inbox = 0 },
		func(c *api.Config) { c.Inbox = 65 },
		func(c *api.Config) { c.Bound = 0 },
		func(c *api.Config) { c.Bound = 17 },
	} {
		c := of(4, 4, 2)
		turn(&c)
		l = append(l, c)
	}
	return l
}

// beyond are numbers that are none of those from 0 to the limit less 1, such as are if they are cut to fewer bits among them.
func beyond(limit int) []int {
	return []int{math.MinInt, math.MinInt + 1, math.MinInt + 2, math.MinInt32, -limit - 1, -limit, -2, -1, limit, limit + 1, 2 * limit, math.MaxInt32, 1 << 32, 1<<32 + 1, 1 << 62, math.MaxInt - 1, math.MaxInt}
}

// model has all parts in their row, written down as the chapter tells them.
type model []Part

func modelOf(c api.Config) model {
	var m model
	for node := range c.W * c.H {
		for _, port := range []int{api.Local, api.East, api.West, api.North, api.South} {
			for lane := range c.Lanes {
				m = append(m, Part{0, node, port, lane})
			}
		}
		for _, port := range []int{api.Local, api.East, api.West, api.North, api.South} {
			for lane := range c.Lanes {
				m = append(m, Part{1, node, port, lane})
			}
		}
		for _, port := range []int{api.Local, api.East, api.West, api.North, api.South} {
			m = append(m, Part{2, node, port, 0})
		}
		m = append(m, Part{3, node, 0, 0}, Part{4, node, 0, 0})
		for _, port := range []int{api.East, api.West, api.North, api.South} {
			m = append(m, Part{5, node, port, 0})
		}
		for _, port := range []int{api.East, api.West, api.North, api.South} {
			m = append(m, Part{6, node, port, 0})
		}
	}
	return m
}

// numbers tells the number of each part.
func (m model) numbers() map[Part]int {
	numbers := map[Part]int{}
	for n, p := range m {
		numbers[p] = n
	}
	return numbers
}

// round tells the row in which a list that has all numbers is emptied: round it, each time so many further of all that were ever in it.
func (m model) round(from, by int) []int {
	left := make([]int, len(m))
	for n := range left {
		left[n] = n
	}
	var l []int
	at := from
	for len(left) > 0 {
		i, _ := slices.BinarySearch(left, at) // that number, or the next one that is left
		if i == len(left) {
			i = 0
		}
		l = append(l, left[i])
		at = left[i]
		left = slices.Delete(left, i, i+1)
		for range by {
			at++
			if at == len(m) {
				at = 0
			}
		}
	}
	return l
}

// holdAll asks for all parts of a mesh, by their numbers and by themselves.
func holdAll(t *testing.T, c api.Config) {
	t.Helper()
	m := modelOf(c)
	if n := Count(c); n != len(m) {
		t.Fatalf("%+v: Count: %d, want %d", c, n, len(m))
	}
	if n := Each(c); n*c.W*c.H != len(m) {
		t.Fatalf("%+v: Each: %d, want a part of %d", c, n, len(m))
	}
	for n, want := range m {
		if p, ok := Of(c, n); p != want || !ok {
			t.Fatalf("%+v: Of(%d): %+v, %v, want %+v", c, n, p, ok, want)
		}
		if k, ok := Number(c, want); k != n || !ok {
			t.Fatalf("%+v: Number(%+v): %d, %v, want %d", c, want, k, ok, n)
		}
	}
}

// holdNone asks for a part that there isn't.
func holdNone(t *testing.T, c api.Config, p Part) {
	t.Helper()
	if n, ok := Number(c, p); n != 0 || ok {
		t.Errorf("%+v: Number(%+v): %d, %v", c, p, n, ok)
	}
}

// holdOnce tells whether a round has each number once.
func holdOnce(t *testing.T, c api.Config, from, by int, l []int) {
	t.Helper()
	if len(l) != Count(c) {
		t.Fatalf("%+v: Round(%d, %d) has %d numbers, not %d", c, from, by, len(l), Count(c))
	}
	was := make([]bool, len(l))
	for _, n := range l {
		if n < 0 || n >= len(was) || was[n] {
			t.Fatalf("%+v: Round(%d, %d) has %d, which is none, or was there already", c, from, by, n)
		}
		was[n] = true
	}
}

// P18.1: what one counts by hand.
func TestCountsByHand(t *testing.T) {
	for lanes, want := range map[int]int{1: 25, 2: 35, 3: 45, 4: 55, 5: 65, 6: 75, 7: 85, 8: 95} {
		if n := Each(of(4, 3, lanes)); n != want {
			t.Errorf("Each of %d lanes: %d, want %d", lanes, n, want)
		}
		if n := Count(of(4, 3, lanes)); n != 12*want {
			t.Errorf("Count of 12 nodes, %d lanes: %d, want %d", lanes, n, 12*want)
		}
	}
	if n := Count(of(64, 64, 8)); n != 389120 {
		t.Errorf("Count of the greatest mesh: %d", n)
	}
}

// P18.1: what one numbers by hand: of one lane, and of three, at the edges of each kind, and of nodes.
func TestNumbersByHand(t *testing.T) {
	for _, x := range []struct {
		c    api.Config
		n    int
		want Part
	}{
		{of(1, 1, 1), 0, Part{Kind: Find}},
		{of(1, 1, 1), 4, Part{Kind: Find, Port: api.South}},
		{of(1, 1, 1), 5, Part{Kind: Give}},
		{of(1, 1, 1), 9, Part{Kind: Give, Port: api.South}},
		{of(1, 1, 1), 10, Part{Kind: Move}},
		{of(1, 1, 1), 14, Part{Kind: Move, Port: api.South}},
		{of(1, 1, 1), 15, Part{Kind: Put}},
		{of(1, 1, 1), 16, Part{Kind: Tell}},
		{of(1, 1, 1), 17, Part{Kind: Carry, Port: api.East}},
		{of(1, 1, 1), 20, Part{Kind: Carry, Port: api.South}},
		{of(1, 1, 1), 21, Part{Kind: Credit, Port: api.East}},
		{of(1, 1, 1), 24, Part{Kind: Credit, Port: api.South}},
		{of(3, 2, 3), 2, Part{Kind: Find, Lane: 2}},
		{of(3, 2, 3), 3, Part{Kind: Find, Port: api.East}},
		{of(3, 2, 3), 14, Part{Kind: Find, Port: api.South, Lane: 2}},
		{of(3, 2, 3), 15, Part{Kind: Give}},
		{of(3, 2, 3), 22, Part{Kind: Give, Port: api.West, Lane: 1}},
		{of(3, 2, 3), 30, Part{Kind: Move}},
		{of(3, 2, 3), 44, Part{Kind: Credit, Port: api.South}},
		{of(3, 2, 3), 45, Part{Kind: Find, Node: 1}},
		{of(3, 2, 3), 225, Part{Kind: Find, Node: 5}},
		{of(3, 2, 3), 269, Part{Kind: Credit, Node: 5, Port: api.South}},
		{of(64, 64, 8), 389119, Part{Kind: Credit, Node: 4095, Port: api.South}},
		{of(64, 64, 8), 389025 + 39, Part{Kind: Find, Node: 4095, Port: api.South, Lane: 7}},
	} {
		if p, ok := Of(x.c, x.n); p != x.want || !ok {
			t.Errorf("%+v: Of(%d): %+v, %v, want %+v", x.c, x.n, p, ok, x.want)
		}
		if n, ok := Number(x.c, x.want); n != x.n || !ok {
			t.Errorf("%+v: Number(%+v): %d, %v, want %d", x.c, x.want, n, ok, x.n)
		}
	}
}

// P18.1, P18.2: each number's part, which has that number; of the greatest mesh, too.
func TestOfAndNumber(t *testing.T) {
	for _, c := range append(configs(), of(64, 64, 1), of(64, 64, 8), of(63, 64, 5)) {
		holdAll(t, c)
	}
}

// P18.1: a port that leads to no node has its parts all the same.
func TestPortsBeyondSides(t *testing.T) {
	c := of(1, 1, 2)
	for _, kind := range []int{Find, Give, Move, Carry, Credit} {
		for _, port := range []int{api.East, api.West, api.North, api.South} {
			p := Part{Kind: kind, Port: port}
			n, ok := Number(c, p)
			if q, is := Of(c, n); !ok || !is || q != p {
				t.Errorf("%+v: %d, %v", p, n, ok)
			}
		}
	}
}

// P18.1: a number below 0, or past the last one, is no part's.
func TestNumbersThatAreNone(t *testing.T) {
	for _, c := range append(configs(), of(64, 64, 8)) {
		for _, n := range append(beyond(Count(c)), -Each(c), Count(c)+Each(c)-1, Count(c)+Each(c)) {
			if p, ok := Of(c, n); p != (Part{}) || ok {
				t.Errorf("%+v: Of(%d): %+v, %v", c, n, p, ok)
			}
		}
	}
}

// P18.1: all parts around those that there are: just these have a number.
func TestPartsAround(t *testing.T) {
	for _, c := range []api.Config{of(1, 1, 1), of(1, 1, 8), of(2, 1, 2), of(2, 2, 3), of(3, 2, 1)} {
		numbers := modelOf(c).numbers()
		for kind := -3; kind < 11; kind++ {
			for node := -3; node < c.W*c.H+3; node++ {
				for port := -3; port < 9; port++ {
					for lane := -3; lane < 12; lane++ {
						p := Part{Kind: kind, Node: node, Port: port, Lane: lane}
						want, is := numbers[p]
						if n, ok := Number(c, p); n != want || ok != is {
							t.Fatalf("%+v: Number(%+v): %d, %v, want %d, %v", c, p, n, ok, want, is)
						}
					}
				}
			}
		}
	}
}

// P18.1: parts of which one number, or several, are far beyond.
func TestPartsThatAreNone(t *testing.T) {
	for _, c := range []api.Config{of(1, 1, 1), of(2, 2, 2), of(64, 64, 8)} {
		for _, p := range []Part{{}, {Kind: Find, Port: api.South}, {Kind: Give, Port: api.East}, {Kind: Move, Port: api.West}, {Kind: Put}, {Kind: Tell}, {Kind: Carry, Port: api.East}, {Kind: Credit, Port: api.South}} {
			for _, n := range beyond(7) {
				q := p
				q.Kind = n
				holdNone(t, c, q)
				holdNone(t, c, Part{Kind: n, Node: n, Port: n, Lane: n})
			}
			for _, n := range beyond(c.W * c.H) {
				q := p
				q.Node = n
				holdNone(t, c, q)
			}
			for _, n := range beyond(api.Ports) {
				q := p
				q.Port = n
				holdNone(t, c, q)
			}
			for _, n := range beyond(c.Lanes) {
				q := p
				q.Lane = n
				holdNone(t, c, q)
			}
		}
	}
}

// P18.1: a Put and a Tell have no port, a Move, a Carry and a Credit no lane, a Carry and a Credit no port 0.
func TestNoPortsAndNoLanes(t *testing.T) {
	c := of(2, 2, 4)
	for _, p := range []Part{{Kind: Carry}, {Kind: Credit}, {Kind: Carry, Node: 1}, {Kind: Credit, Node: 1}} {
		holdNone(t, c, p)
	}
	for port := 1; port < api.Ports; port++ {
		holdNone(t, c, Part{Kind: Put, Port: port})
		holdNone(t, c, Part{Kind: Tell, Port: port})
	}
	for lane := 1; lane < 4; lane++ {
		for _, p := range []Part{{Kind: Move}, {Kind: Put}, {Kind: Tell}, {Kind: Carry, Port: 1}, {Kind: Credit, Port: 1}} {
			p.Lane = lane
			holdNone(t, c, p)
		}
	}
}

// P18.1: a config that may not be has no parts, whichever of its numbers is wrong.
func TestConfigsThatMayNotBe(t *testing.T) {
	for _, c := range wrong() {
		if Each(c) != 0 || Count(c) != 0 {
			t.Errorf("%+v: Each %d, Count %d", c, Each(c), Count(c))
		}
		for _, n := range append(beyond(560), 0, 1, 34, 35, 559) {
			if p, ok := Of(c, n); p != (Part{}) || ok {
				t.Errorf("%+v: Of(%d): %+v, %v", c, n, p, ok)
			}
			for _, by := range append(beyond(560), 0, 1) {
				if l := Round(c, n, by); len(l) != 0 {
					t.Errorf("%+v: Round(%d, %d): %v", c, n, by, l)
				}
			}
		}
		for _, p := range modelOf(of(4, 4, 2)) {
			holdNone(t, c, p)
		}
	}
}

// P18.1: parts hang on the sides and the lanes alone.
func TestOtherNumbersTurnNothing(t *testing.T) {
	m := modelOf(of(3, 2, 3))
	for _, turn := range []func(c *api.Config){
		func(c *api.Config) { c.Depth, c.Ring, c.Inbox, c.Bound = 1, 1, 1, 1 },
		func(c *api.Config) { c.Depth, c.Ring, c.Inbox, c.Bound = 64, 64, 64, 16 },
		func(c *api.Config) { c.West = true },
		func(c *api.Config) { c.Cast = true },
		func(c *api.Config) { c.West, c.Cast = true, true },
	} {
		c := of(3, 2, 3)
		turn(&c)
		holdAll(t, c)
		if l := Round(c, 5, 17); !slices.Equal(l, m.round(5, 18)) {
			t.Errorf("%+v: Round: %v", c, l)
		}
	}
}

// P18.1: rounds that one goes by hand: of 25 parts.
func TestRoundsByHand(t *testing.T) {
	for _, x := range []struct {
		from, by int
		want     []int
	}{
		{0, 0, []int{0, 1, 2, 3, 4, 5, 6, 7, 8, 9, 10, 11, 12, 13, 14, 15, 16, 17, 18, 19, 20, 21, 22, 23, 24}},
		{23, 0, []int{23, 24, 0, 1, 2, 3, 4, 5, 6, 7, 8, 9, 10, 11, 12, 13, 14, 15, 16, 17, 18, 19, 20, 21, 22}},
		{0, 1, []int{0, 2, 4, 6, 8, 10, 12, 14, 16, 18, 20, 22, 24, 1, 3, 5, 7, 9, 11, 13, 15, 17, 19, 21, 23}},
		{0, 4, []int{0, 5, 10, 15, 20, 1, 6, 11, 16, 21, 2, 7, 12, 17, 22, 3, 8, 13, 18, 23, 4, 9, 14, 19, 24}},
		{23, 9, []int{23, 8, 18, 3, 13, 24, 9, 19, 4, 14, 0, 10, 20, 5, 15, 1, 11, 21, 6, 16, 2, 12, 22, 7, 17}},
		{1, 23, []int{1, 0, 24, 23, 22, 21, 20, 19, 18, 17, 16, 15, 14, 13, 12, 11, 10, 9, 8, 7, 6, 5, 4, 3, 2}},
		{24, 24, []int{24, 0, 1, 2, 3, 4, 5, 6, 7, 8, 9, 10, 11, 12, 13, 14, 15, 16, 17, 18, 19, 20, 21, 22, 23}},
	} {
		if l := Round(of(1, 1, 1), x.from, x.by); !slices.Equal(l, x.want) {
			t.Errorf("Round(%d, %d): %v, want %v", x.from, x.by, l, x.want)
		}
	}
}

// P18.1: from and by are told modulo how many there are; one below 0 is its distance from -1.
func TestRoundOfAnyNumbers(t *testing.T) {
	const count = 70
	c := of(2, 1, 2)
	same := map[int]int{
		-1: 0, -2: 1, -70: 69, -71: 0, -72: 1, -141: 0,
		69: 69, 70: 0, 71: 1, 139: 69, 140: 0,
		math.MaxInt32:     57,
		math.MinInt32:     57,
		math.MinInt32 + 1: 56,
		1 << 32:           46,
		math.MaxInt:       7,
		math.MaxInt - 1:   6,
		math.MinInt:       7,
		math.MinInt + 1:   6,
	}
	for n, is := range same {
		if l := Round(c, n, 2); !slices.Equal(l, Round(c, is, 2)) || l[0] != is {
			t.Errorf("Round(%d, 2): %v, want from %d on", n, l, is)
		}
		if l := Round(c, 3, n); !slices.Equal(l, Round(c, 3, is)) || l[1] != (3+is+1)%count && is != count-1 {
			t.Errorf("Round(3, %d): %v, want each %d further", n, l, is+1)
		}
	}
}

// P18.1, P18.2: all rounds of small meshes.
func TestRounds(t *testing.T) {
	for _, c := range []api.Config{of(1, 1, 1), of(1, 1, 2), of(2, 1, 2), of(1, 3, 1), of(1, 1, 8)} {
		m := modelOf(c)
		for from := range m {
			for by := range m {
				l := Round(c, from, by)
				if want := m.round(from, by+1); !slices.Equal(l, want) {
					t.Fatalf("%+v: Round(%d, %d): %v, want %v", c, from, by, l, want)
				}
				holdOnce(t, c, from, by, l)
			}
		}
	}
}

// P18.2: a round of a great mesh has each number once, however far the steps go, and ends.
func TestRoundsOfGreatMeshes(t *testing.T) {
	for _, c := range []api.Config{of(64, 64, 8), of(64, 64, 1), of(63, 61, 7), of(64, 1, 3)} {
		count := Count(c)
		for _, by := range []int{0, 1, 2, 6, 94, count/2 - 1, count / 2, count - 3, count - 2, count - 1, count, -1, -count, math.MaxInt, math.MinInt} {
			for _, from := range []int{0, count - 1, count / 3, math.MaxInt, math.MinInt} {
				holdOnce(t, c, from, by, Round(c, from, by))
			}
		}
	}
}

// P18.1: the kinds' numbers and names.
func TestKinds(t *testing.T) {
	all := [...]int{Find, Give, Move, Put, Tell, Carry, Credit}
	for n, want := range []string{"find", "give", "move", "put", "tell", "carry", "credit"} {
		if all[n] != n || Kind(n) != want {
			t.Errorf("the kind %d: %d, %q, want %q", n, all[n], Kind(n), want)
		}
	}
	for _, n := range beyond(7) {
		if s := Kind(n); s != "" {
			t.Errorf("Kind(%d): %q", n, s)
		}
	}
}

// R4: a list that was answered is new memory: whatever becomes of it, others stay.
func TestListsAreNew(t *testing.T) {
	c := of(2, 2, 2)
	want := modelOf(c).round(3, 8)
	one, other := Round(c, 3, 7), Round(c, 3, 7)
	for i := range one {
		one[i] = -1
	}
	_ = append(one, -1)
	if !slices.Equal(other, want) || !slices.Equal(Round(c, 3, 7), want) {
		t.Errorf("Round: %v, %v, want %v", other, Round(c, 3, 7), want)
	}
}
