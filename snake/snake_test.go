package snake

import (
	"math"
	"slices"
	"testing"

	"reticule/api"
	"reticule/grid"
)

// of tells a config that may be, of that size.
func of(w, h int) api.Config {
	return api.Config{W: w, H: h, Lanes: 2, Depth: 2, Ring: 4, Inbox: 8, Bound: 4, Cast: true}
}

// sizes are small ones, all of them, and some that are long, odd and even.
func sizes() [][2]int {
	l := [][2]int{{1, 64}, {64, 1}, {2, 64}, {64, 2}, {13, 7}, {7, 10}}
	for w := 1; w <= 5; w++ {
		for h := 1; h <= 5; h++ {
			l = append(l, [2]int{w, h})
		}
	}
	return l
}

// wrong are configs that may not be, each by one of its numbers.
func wrong() []api.Config {
	l := []api.Config{{}, {W: 4, H: 4}}
	for _, turn := range []func(c *api.Config){
		func(c *api.Config) { c.W = 0 },
		func(c *api.Config) { c.W = 65 },
		func(c *api.Config) { c.W = math.MaxInt },
		func(c *api.Config) { c.H = 0 },
		func(c *api.Config) { c.H = 65 },
		func(c *api.Config) { c.H = math.MinInt },
		func(c *api.Config) { c.W, c.H = -4, -4 },
		func(c *api.Config) { c.Lanes = 0 },
		func(c *api.Config) { c.Lanes = 9 },
		func(c *api.Config) { c.Lanes = 1 }, // none for packets for several
		func(c *api.Config) { c.Depth = 65 },
		func(c *api.Config) { c.Ring = 0 },
		func(c *api.Config) { c.Inbox = 65 },
		func(c *api.Config) { c.Bound = 17 },
	} {
		c := of(4, 4)
		turn(&c)
		l = append(l, c)
	}
	return l
}

// beyond are numbers that are none of those from 0 to the limit less 1, such as are if they are cut to fewer bits among them.
func beyond(limit int) []int {
	return []int{math.MinInt, math.MinInt + 1, math.MinInt32, -limit, -2, -1, limit, limit + 1, 2 * limit, math.MaxInt32, 1 << 32, 1<<32 + 1, 1 << 62, math.MaxInt}
}

// model is the line: its nodes by their labels, written down as one goes along it, there and back.
type model struct {
	w, h int
	line []int
}

func modelOf(c api.Config) model {
	m := model{w: c.W, h: c.H}
	for y := 0; y < c.H; y++ {
		var l []int
		for x := 0; x < c.W; x++ {
			l = append(l, y*c.W+x)
		}
		if y%2 != 0 {
			slices.Reverse(l)
		}
		m.line = append(m.line, l...)
	}
	return m
}

// label is -1 of what is no node.
func (m model) label(node int) int {
	return slices.Index(m.line, node)
}

// beside tells the nodes beside one by their ports.
func (m model) beside(node int) map[int]int {
	l := map[int]int{}
	if node%m.w < m.w-1 {
		l[api.East] = node + 1
	}
	if node%m.w > 0 {
		l[api.West] = node - 1
	}
	if node/m.w < m.h-1 {
		l[api.North] = node + m.w
	}
	if node/m.w > 0 {
		l[api.South] = node - m.w
	}
	return l
}

// step goes from the goal's label back along the line, to the first node that is beside.
func (m model) step(at, to int) int {
	here, there := m.label(at), m.label(to)
	for label := there; label != here; {
		for port, node := range m.beside(at) {
			if node == m.line[label] {
				return port
			}
		}
		if there > here {
			label--
		} else {
			label++
		}
	}
	return api.Local
}

// way is none, if one isn't there.
func (m model) way(at int, to ...int) []int {
	if m.label(at) < 0 || slices.ContainsFunc(to, func(node int) bool { return m.label(node) < 0 }) {
		return nil
	}
	way := []int{at}
	for _, goal := range to {
		for at != goal {
			at = m.beside(at)[m.step(at, goal)]
			way = append(way, at)
		}
	}
	return way
}

// plan goes along the line, and looks which of its nodes are in the set.
func (m model) plan(from int, set []int) [3][]int {
	here := m.label(from)
	var plan [3][]int
	for label := here + 1; label < len(m.line); label++ {
		if slices.Contains(set, m.line[label]) {
			plan[0] = append(plan[0], m.line[label])
		}
	}
	for label := here - 1; label >= 0; label-- {
		if slices.Contains(set, m.line[label]) {
			plan[1] = append(plan[1], m.line[label])
		}
	}
	if slices.Contains(set, from) {
		plan[2] = []int{from}
	}
	return plan
}

func isSamePlan(a, b [3][]int) bool {
	return slices.Equal(a[0], b[0]) && slices.Equal(a[1], b[1]) && slices.Equal(a[2], b[2])
}

// shuffled tells a list in another row, the same one each time.
func shuffled(l []int) []int {
	l = slices.Clone(l)
	n := uint32(7)
	for i := len(l) - 1; i > 0; i-- {
		n = n*1664525 + 1013904223
		j := int(n>>8) % (i + 1)
		l[i], l[j] = l[j], l[i]
	}
	return l
}

// some tells nodes of a mesh: all of a small one, of others the first and the last ones, and some between.
func some(n int) []int {
	var l []int
	for node := range n {
		if n <= 30 || node < 3 || node >= n-3 || node%17 == 5 {
			l = append(l, node)
		}
	}
	return l
}

// subsets tells all sets of nodes, each rising, the empty one first.
func subsets(n int) [][]int {
	var all [][]int
	for bits := range 1 << n {
		var set []int
		for node := range n {
			if bits>>node&1 == 1 {
				set = append(set, node)
			}
		}
		all = append(all, set)
	}
	return all
}

func holdWay(t *testing.T, c api.Config, m model, at int, to ...int) {
	t.Helper()
	want := m.way(at, to...)
	if got := Way(c, at, to...); !slices.Equal(got, want) {
		t.Fatalf("%dx%d: Way(%d, %v): %v, want %v", c.W, c.H, at, to, got, want)
	}
	if n := Steps(c, at, to...); n != len(want)-1 {
		t.Fatalf("%dx%d: Steps(%d, %v): %d, want %d", c.W, c.H, at, to, n, len(want)-1)
	}
}

func holdPlan(t *testing.T, c api.Config, m model, from int, set []int) {
	t.Helper()
	want := m.plan(from, set)
	if got, e := Plan(c, from, set); e != api.OK || !isSamePlan(got, want) {
		t.Fatalf("%dx%d: Plan(%d, %v): %v, error %d, want %v", c.W, c.H, from, set, got, e, want)
	}
}

func holdNoPlan(t *testing.T, c api.Config, from int, set ...int) {
	t.Helper()
	if got, e := Plan(c, from, set); e != api.ErrSet || !isSamePlan(got, [3][]int{}) {
		t.Errorf("%+v: Plan(%d, %v): %v, error %d", c, from, set, got, e)
	}
}

// holdNone asks all calls of what is no node, alone and beside one that may be there.
func holdNone(t *testing.T, c api.Config, none, other int) {
	t.Helper()
	if n, e := Label(c, none); n != 0 || e != api.ErrNode {
		t.Errorf("%+v: Label(%d): %d, error %d", c, none, n, e)
	}
	if n, e := Node(c, none); n != 0 || e != api.ErrNode {
		t.Errorf("%+v: Node(%d): %d, error %d", c, none, n, e)
	}
	for _, x := range [][2]int{{none, other}, {other, none}, {none, none}} {
		if port, ok := Step(c, x[0], x[1]); port != 0 || ok {
			t.Errorf("%+v: Step(%d, %d): %d, %v", c, x[0], x[1], port, ok)
		}
	}
	for _, l := range [][]int{{none}, {none, other}, {other, none}, {none, none}, {other, other, none}, {other, none, other}} {
		if way := Way(c, l[0], l[1:]...); len(way) != 0 {
			t.Errorf("%+v: Way of %v: %v", c, l, way)
		}
		if n := Steps(c, l[0], l[1:]...); n != -1 {
			t.Errorf("%+v: Steps of %v: %d", c, l, n)
		}
	}
	holdNoPlan(t, c, none, other)
	holdNoPlan(t, c, none)
	holdNoPlan(t, c, none, none)
	holdNoPlan(t, c, other, none)
	holdNoPlan(t, c, other, other, none)
	holdNoPlan(t, c, other, none, other)
}

// P8.1: the label of each node, and the node of each label.
func TestLabels(t *testing.T) {
	for _, s := range append(sizes(), [2]int{64, 64}, [2]int{63, 64}) {
		c := of(s[0], s[1])
		for label, node := range modelOf(c).line {
			if n, e := Label(c, node); n != label || e != api.OK {
				t.Fatalf("%dx%d: Label(%d): %d, error %d, want %d", c.W, c.H, node, n, e, label)
			}
			if n, e := Node(c, label); n != node || e != api.OK {
				t.Fatalf("%dx%d: Node(%d): %d, error %d, want %d", c.W, c.H, label, n, e, node)
			}
		}
	}
}

// P8.1: labels that follow one another are beside one another.
func TestLabelsFollowOneAnother(t *testing.T) {
	for _, s := range append(sizes(), [2]int{64, 64}, [2]int{63, 64}) {
		c := of(s[0], s[1])
		for label := range c.W*c.H - 1 {
			a, _ := Node(c, label)
			b, _ := Node(c, label+1)
			if grid.Far(c, a, b) != 1 {
				t.Fatalf("%dx%d: the labels %d and %d are of %d and %d", c.W, c.H, label, label+1, a, b)
			}
		}
	}
}

// P8.1: what is no node, or no label, beside such as are.
func TestWhatIsNoNode(t *testing.T) {
	for _, s := range [][2]int{{1, 1}, {2, 1}, {1, 2}, {4, 4}, {13, 7}, {64, 64}} {
		c := of(s[0], s[1])
		for _, none := range beyond(c.W * c.H) {
			holdNone(t, c, none, 0)
			holdNone(t, c, none, c.W*c.H-1)
		}
	}
}

// P8.1: a config that may not be has no node, whichever of its numbers is wrong.
func TestConfigsThatMayNotBe(t *testing.T) {
	for _, c := range wrong() {
		for _, node := range append(beyond(16), 0, 1, 5, 15) {
			holdNone(t, c, node, 0)
			holdNone(t, c, node, 7)
		}
		holdNoPlan(t, c, 0)
		holdNoPlan(t, c, 5, 0, 3, 8)
	}
}

// P8.1: answers that were written down by hand, the chapter's example first.
func TestByHand(t *testing.T) {
	for _, x := range []struct{ w, h, node, label int }{
		{4, 4, 7, 4}, {4, 4, 3, 3}, {4, 4, 0, 0}, {4, 4, 4, 7}, {4, 4, 8, 8}, {4, 4, 11, 11}, {4, 4, 15, 12}, {4, 4, 12, 15}, {4, 4, 5, 6},
		{3, 3, 4, 4}, {3, 3, 5, 3}, {3, 3, 3, 5}, {3, 3, 8, 8}, {1, 1, 0, 0}, {5, 1, 3, 3}, {1, 5, 3, 3}, {2, 2, 2, 3},
		{64, 64, 4095, 4032}, {64, 64, 4032, 4095}, {64, 64, 63, 63}, {64, 64, 64, 127}, {64, 64, 127, 64}, {64, 63, 4031, 4031},
	} {
		if n, e := Label(of(x.w, x.h), x.node); n != x.label || e != api.OK {
			t.Errorf("%dx%d: Label(%d): %d, error %d, want %d", x.w, x.h, x.node, n, e, x.label)
		}
		if n, e := Node(of(x.w, x.h), x.label); n != x.node || e != api.OK {
			t.Errorf("%dx%d: Node(%d): %d, error %d, want %d", x.w, x.h, x.label, n, e, x.node)
		}
	}
	// The labels of 4x4, from its last line to its first one: 15 14 13 12, 8 9 10 11, 7 6 5 4, 0 1 2 3.
	c := of(4, 4)
	for _, x := range [][3]int{
		{0, 0, api.Local}, {15, 15, api.Local}, {0, 3, api.East}, {0, 7, api.East}, {0, 4, api.North}, {0, 15, api.North}, {0, 5, api.East},
		{1, 5, api.North}, {1, 6, api.East}, {1, 4, api.North}, {5, 4, api.West}, {5, 8, api.West}, {5, 9, api.North}, {5, 10, api.North},
		{12, 0, api.South}, {12, 15, api.East}, {12, 11, api.East}, {12, 8, api.South}, {9, 2, api.South}, {9, 4, api.West}, {9, 5, api.South}, {4, 3, api.East},
		{4, 1, api.East}, {4, 0, api.South}, {6, 0, api.South}, {6, 3, api.East}, {7, 3, api.South}, {11, 15, api.North}, {11, 12, api.North},
	} {
		if port, ok := Step(c, x[0], x[1]); port != x[2] || !ok {
			t.Errorf("Step(%d, %d): %d, %v, want %d", x[0], x[1], port, ok, x[2])
		}
	}
	for _, x := range []struct{ way, to []int }{
		{[]int{5}, nil}, {[]int{5}, []int{5}}, {[]int{5}, []int{5, 5}}, {[]int{0, 4, 8, 9, 10, 14, 13}, []int{8, 10, 13}}, {[]int{0, 1, 5, 4}, []int{5, 4}},
		{[]int{13, 9, 5, 6, 2, 1}, []int{6, 1}}, {[]int{0, 4, 0, 4, 8}, []int{4, 4, 0, 8}}, {[]int{0, 1, 2, 3, 7}, []int{1, 7}}, {[]int{15, 11, 7, 3, 2, 1, 0}, []int{0}},
	} {
		if got := Way(c, x.way[0], x.to...); !slices.Equal(got, x.way) {
			t.Errorf("Way(%d, %v): %v, want %v", x.way[0], x.to, got, x.way)
		}
		if n := Steps(c, x.way[0], x.to...); n != len(x.way)-1 {
			t.Errorf("Steps(%d, %v): %d", x.way[0], x.to, n)
		}
	}
	for _, x := range []struct {
		from int
		set  []int
		plan [3][]int
	}{
		{5, []int{3, 4, 5, 6, 7, 8}, [3][]int{{4, 8}, {6, 7, 3}, {5}}},
		{5, []int{8, 3, 7}, [3][]int{{8}, {7, 3}, nil}},
		{0, []int{4, 7, 15, 12}, [3][]int{{7, 4, 15, 12}, nil, nil}},
		{12, []int{0, 15, 4}, [3][]int{nil, {15, 4, 0}, nil}},
		{9, []int{9}, [3][]int{nil, nil, {9}}},
	} {
		if got, e := Plan(c, x.from, x.set); e != api.OK || !isSamePlan(got, x.plan) {
			t.Errorf("Plan(%d, %v): %v, error %d, want %v", x.from, x.set, got, e, x.plan)
		}
	}
}

// P8.1: the step from each node toward each one.
func TestStep(t *testing.T) {
	for _, s := range append(sizes(), [2]int{64, 64}) {
		c := of(s[0], s[1])
		m := modelOf(c)
		for _, at := range some(len(m.line)) {
			for _, to := range some(len(m.line)) {
				if len(m.line) > 1000 && at%16 != 5 {
					continue
				}
				want := m.step(at, to)
				if port, ok := Step(c, at, to); port != want || !ok {
					t.Fatalf("%dx%d: Step(%d, %d): %d, %v, want %d", c.W, c.H, at, to, port, ok, want)
				}
			}
		}
	}
}

// P8.1: ways to none, to one and to two, whether their labels rise or not, with the same one twice among them.
func TestWays(t *testing.T) {
	for _, s := range sizes() {
		c := of(s[0], s[1])
		m := modelOf(c)
		last := len(m.line) - 1
		for _, at := range some(len(m.line)) {
			holdWay(t, c, m, at)
			for _, to := range some(len(m.line)) {
				holdWay(t, c, m, at, to)
				holdWay(t, c, m, at, to, at)
				holdWay(t, c, m, at, to, to, last/2, to)
			}
		}
	}
	c := of(4, 3)
	holdWay(t, c, modelOf(c), 7, shuffled([]int{0, 1, 2, 3, 4, 5, 6, 7, 8, 9, 10, 11, 0, 5, 11})...)
}

// P8.2: labels rise, or fall, with each step toward one, until it is there.
func TestStepsRise(t *testing.T) {
	for _, s := range append(sizes(), [2]int{64, 64}) {
		c := of(s[0], s[1])
		m := modelOf(c)
		for _, at := range some(len(m.line)) {
			if len(m.line) > 1000 && at%16 != 5 {
				continue
			}
			for _, to := range some(len(m.line)) {
				way := Way(c, at, to)
				if way[0] != at || way[len(way)-1] != to {
					t.Fatalf("%dx%d: Way(%d, %d): %v", c.W, c.H, at, to, way)
				}
				holdMonotone(t, c, m, way)
			}
		}
	}
}

// holdMonotone holds that a way goes from each node to one beside, and its labels rise, or fall, all along.
func holdMonotone(t *testing.T, c api.Config, m model, way []int) {
	t.Helper()
	rises := m.label(way[len(way)-1]) > m.label(way[0])
	for i, node := range way[1:] {
		a, b := m.label(way[i]), m.label(node)
		if grid.Far(c, way[i], node) != 1 || rises != (b > a) {
			t.Fatalf("%dx%d: %v: from the label %d to %d", c.W, c.H, way, a, b)
		}
	}
}

// isWithin tells whether the goals are in a way, in their row.
func isWithin(way, goals []int) bool {
	for _, node := range way {
		if len(goals) > 0 && goals[0] == node {
			goals = goals[1:]
		}
	}
	return len(goals) == 0
}

// holdWayOfPlan holds a way to several, whose labels rise or fall, to go by each, in their row, and by none twice.
func holdWayOfPlan(t *testing.T, c api.Config, m model, from int, goals []int) {
	t.Helper()
	way := Way(c, from, goals...)
	if !isWithin(way, goals) || len(goals) > 0 && way[len(way)-1] != goals[len(goals)-1] {
		t.Fatalf("%dx%d: Way(%d, %v): %v", c.W, c.H, from, goals, way)
	}
	holdMonotone(t, c, m, way)
	sorted := slices.Sorted(slices.Values(way))
	if len(slices.Compact(sorted)) != len(way) || Steps(c, from, goals...) != len(way)-1 {
		t.Fatalf("%dx%d: Way(%d, %v) goes by one twice: %v", c.W, c.H, from, goals, way)
	}
}

// P8.1, P8.2: plans of all sets of small meshes, from each node, the set handed in by several rows; and the ways along them.
func TestPlansOfAllSets(t *testing.T) {
	for _, s := range [][2]int{{1, 1}, {2, 1}, {1, 2}, {2, 2}, {3, 2}, {2, 3}, {1, 7}, {7, 1}, {3, 3}} {
		c := of(s[0], s[1])
		m := modelOf(c)
		for _, set := range subsets(len(m.line))[1:] {
			back := slices.Clone(set)
			slices.Reverse(back)
			for from := range m.line {
				holdPlan(t, c, m, from, set)
				holdPlan(t, c, m, from, back)
				holdPlan(t, c, m, from, shuffled(set))
				plan, _ := Plan(c, from, set)
				holdWayOfPlan(t, c, m, from, plan[0])
				holdWayOfPlan(t, c, m, from, plan[1])
			}
		}
	}
}

// P8.1, P8.2: plans of great meshes: of all nodes, and of some.
func TestPlansOfGreatMeshes(t *testing.T) {
	for _, s := range [][2]int{{64, 1}, {1, 64}, {13, 7}, {64, 2}, {64, 64}, {63, 63}} {
		c := of(s[0], s[1])
		m := modelOf(c)
		n := len(m.line)
		for _, from := range []int{0, c.W - 1, n / 2, n - c.W, n - 1} {
			for _, part := range []int{1, 3, 50} {
				var set []int
				for node := n - 1; node >= 0; node -= part {
					set = append(set, node)
				}
				set = shuffled(set)
				holdPlan(t, c, m, from, set)
				plan, _ := Plan(c, from, set)
				holdWayOfPlan(t, c, m, from, plan[0])
				holdWayOfPlan(t, c, m, from, plan[1])
			}
		}
	}
}

// P8.1: a set that is empty, or has a node twice, wherever both stand.
func TestSetsThatAreNone(t *testing.T) {
	c := of(4, 4)
	holdNoPlan(t, c, 5)
	if got, e := Plan(c, 5, []int{}); e != api.ErrSet || !isSamePlan(got, [3][]int{}) {
		t.Errorf("Plan of an empty list: %v, error %d", got, e)
	}
	var all []int
	for node := range 16 {
		all = append(all, node)
	}
	for node := range 16 {
		holdNoPlan(t, c, 5, node, node)
		holdNoPlan(t, c, node, node, 3, node)
		for at := range 17 {
			holdNoPlan(t, c, 5, slices.Insert(slices.Clone(all), at, node)...)
			if at < 16 && at != node {
				turned := shuffled(all)
				turned[slices.Index(turned, at)] = node
				holdNoPlan(t, c, 5, turned...)
			}
		}
	}
	holdNoPlan(t, c, 5, 9, 16, 9) // both faults
	many := slices.Repeat(all, 5000)
	if got, e := Plan(c, 5, many); e != api.ErrSet || !isSamePlan(got, [3][]int{}) {
		t.Errorf("Plan of each node many times: %v, error %d", got, e)
	}
}

// P8.1: whatever else a config has, the line is the same, if it may be: without packets for several too.
func TestOtherNumbersTurnNothing(t *testing.T) {
	c := of(4, 3)
	m := modelOf(c)
	for _, more := range []api.Config{
		{W: 4, H: 3, Lanes: 1, Depth: 1, Ring: 1, Inbox: 1, Bound: 1},
		{W: 4, H: 3, Lanes: 8, Depth: 64, Ring: 64, Inbox: 64, Bound: 16, West: true, Cast: true},
	} {
		for label, node := range m.line {
			if n, e := Label(more, node); n != label || e != api.OK {
				t.Errorf("%+v: Label(%d): %d, error %d", more, node, n, e)
			}
			for _, to := range m.line {
				holdWay(t, more, m, node, to, 0)
			}
			holdPlan(t, more, m, node, []int{11, 0, 6, 5})
		}
	}
}

// P8.1, R4, R6: what is handed in stays as it is, also behind its end; what is answered is new memory each time, and its lists share none.
func TestListsAreLeftAndNew(t *testing.T) {
	c := of(4, 4)
	room := []int{8, 3, 5, 4, 7, 6, 12, 99, 98}
	was, given := slices.Clone(room), room[:7]
	want := [3][]int{{4, 8, 12}, {6, 7, 3}, {5}}
	for range 2 {
		plan, e := Plan(c, 5, given)
		if e != api.OK || !isSamePlan(plan, want) || !slices.Equal(room, was) {
			t.Errorf("Plan: %v, error %d, of %v", plan, e, room)
		}
		for i, l := range plan {
			_ = append(l, 77)
			for j := range plan {
				if !slices.Equal(plan[j], want[j]) {
					t.Errorf("the list %d shares memory with the list %d", i, j)
				}
			}
		}
		for _, l := range plan {
			clear(l)
		}
	}
	sorted := []int{5} // nothing to move: new memory all the same
	plan, _ := Plan(c, 5, sorted)
	plan[2][0] = 99
	goals := []int{4, 8, 99}[:2]
	for range 2 {
		way := Way(c, 0, goals...)
		if !slices.Equal(way, []int{0, 4, 8}) {
			t.Errorf("Way: %v", way)
		}
		Steps(c, 0, goals...)
		clear(way)
	}
	if sorted[0] != 5 || !slices.Equal(goals[:3], []int{4, 8, 99}) {
		t.Errorf("what was handed in was turned: %v, %v", sorted, goals[:3])
	}
}
