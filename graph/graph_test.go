package graph_test

import (
	"math"
	"math/rand"
	"slices"
	"testing"

	"wharfage/api"
	"wharfage/graph"
)

const least, most = math.MinInt64, math.MaxInt64

// same: N, and all arcs, in the same order.
func same(a, b graph.Graph) bool { return a.N == b.N && slices.Equal(a.Arcs, b.Arcs) }

// full: as many arcs as are told, all of them of one node.
func full(arcs int) graph.Graph { return graph.Graph{N: 1, Arcs: make([]graph.Arc, arcs)} }

// chain: nodes, each with an arc to the one behind it.
func chain(nodes int) graph.Graph {
	g := graph.Graph{N: nodes}
	for i := range nodes - 1 {
		g.Arcs = append(g.Arcs, graph.Arc{From: i, To: i + 1, Weight: int64(i)})
	}
	return g
}

// random: a graph that may be, with a node at least.
func random(r *rand.Rand) graph.Graph {
	g := graph.Graph{N: 1 + r.Intn(12)}
	for range r.Intn(25) {
		g.Arcs = append(g.Arcs, graph.Arc{From: r.Intn(g.N), To: r.Intn(g.N), Weight: r.Int63n(21) - 10})
	}
	return g
}

// wild: a graph that may be or not, with numbers of all sorts.
func wild(r *rand.Rand) graph.Graph {
	g := graph.Graph{N: int(number(r))}
	for range r.Intn(12) {
		g.Arcs = append(g.Arcs, graph.Arc{From: int(number(r)), To: int(number(r)), Weight: number(r)})
	}
	return g
}

// number: mostly a small one, else one of any size.
func number(r *rand.Rand) int64 {
	if r.Intn(10) > 0 {
		return r.Int63n(5)
	}
	return int64(r.Uint64()) >> r.Intn(64)
}

func TestCheckNodes(t *testing.T) {
	for n, want := range map[int]api.Errno{
		0: api.OK, 1: api.OK, 2: api.OK, 999: api.OK, 1000: api.OK,
		1001: api.ErrSize, 1002: api.ErrSize, -1: api.ErrSize, -1000: api.ErrSize,
		1 << 32: api.ErrSize, 1<<32 + 5: api.ErrSize, -1 << 32: api.ErrSize, least: api.ErrSize, most: api.ErrSize,
	} {
		for _, l := range [][]graph.Arc{nil, {}} {
			if e := (graph.Graph{N: n, Arcs: l}).Check(); e != want {
				t.Errorf("Check of %d nodes is %d, not %d", n, e, want)
			}
		}
	}
	if e := (graph.Graph{}).Check(); e != api.OK {
		t.Errorf("Check of none is %d", e)
	}
}

func TestCheckArcs(t *testing.T) {
	for arcs, want := range map[int]api.Errno{1: api.OK, 19999: api.OK, 20000: api.OK, 20001: api.ErrSize, 30000: api.ErrSize} {
		if e := full(arcs).Check(); e != want {
			t.Errorf("Check of %d arcs is %d, not %d", arcs, e, want)
		}
	}
}

// TestCheckArc: each number of an arc, up to its edges, wherever the arc stands.
func TestCheckArc(t *testing.T) {
	for _, c := range []struct {
		n    int
		arc  graph.Arc
		want api.Errno
	}{
		{1, graph.Arc{}, api.OK},
		{3, graph.Arc{From: 0, To: 2, Weight: 5}, api.OK},
		{3, graph.Arc{From: 2, To: 0, Weight: -5}, api.OK},
		{3, graph.Arc{From: 1, To: 1}, api.OK},
		{1000, graph.Arc{From: 999, To: 999}, api.OK},
		{0, graph.Arc{}, api.ErrRange},
		{3, graph.Arc{From: 3}, api.ErrRange},
		{3, graph.Arc{To: 3}, api.ErrRange},
		{3, graph.Arc{From: -1}, api.ErrRange},
		{3, graph.Arc{To: -1}, api.ErrRange},
		{3, graph.Arc{From: 3, To: 3}, api.ErrRange},
		{1000, graph.Arc{From: 1000}, api.ErrRange},
		{1000, graph.Arc{To: 1000}, api.ErrRange},
		{3, graph.Arc{From: 1 << 32}, api.ErrRange},
		{3, graph.Arc{To: 1<<32 + 1}, api.ErrRange},
		{3, graph.Arc{From: least}, api.ErrRange},
		{3, graph.Arc{From: most}, api.ErrRange},
		{3, graph.Arc{To: least}, api.ErrRange},
		{3, graph.Arc{To: most}, api.ErrRange},
		{3, graph.Arc{Weight: 1 << 40}, api.OK},
		{3, graph.Arc{Weight: -1 << 40}, api.OK},
		{3, graph.Arc{Weight: 1<<40 + 1}, api.ErrRange},
		{3, graph.Arc{Weight: -1<<40 - 1}, api.ErrRange},
		{3, graph.Arc{Weight: least}, api.ErrRange},
		{3, graph.Arc{Weight: most}, api.ErrRange},
	} {
		for at := range 4 {
			g := graph.Graph{N: c.n, Arcs: make([]graph.Arc, 4)}
			g.Arcs[at] = c.arc
			if e := g.Check(); e != c.want {
				t.Errorf("Check of %v is %d, not %d", g, e, c.want)
			}
		}
	}
}

// TestCheckOrder: a graph that is too great is so, whatever its arcs are.
func TestCheckOrder(t *testing.T) {
	for _, n := range []int{-1, 1001, least, most} {
		g := graph.Graph{N: n, Arcs: []graph.Arc{{From: -1}, {To: -1}, {Weight: most}}}
		if e := g.Check(); e != api.ErrSize {
			t.Errorf("Check of %v is %d", g, e)
		}
	}
	g := full(20001)
	g.Arcs[0] = graph.Arc{From: 1, To: -1, Weight: least}
	if e := g.Check(); e != api.ErrSize {
		t.Errorf("Check of 20001 arcs, the first one wrong, is %d", e)
	}
	g.Arcs = g.Arcs[:20000]
	if e := g.Check(); e != api.ErrRange {
		t.Errorf("Check of 20000 arcs, the first one wrong, is %d", e)
	}
	g.Arcs[0], g.Arcs[19999] = graph.Arc{}, graph.Arc{To: 1}
	if e := g.Check(); e != api.ErrRange {
		t.Errorf("Check of 20000 arcs, the last one wrong, is %d", e)
	}
}

func TestHas(t *testing.T) {
	for _, c := range []struct {
		n, i int
		want bool
	}{
		{0, 0, false}, {0, -1, false}, {0, 1, false}, {0, least, false}, {0, most, false},
		{1, 0, true}, {1, 1, false}, {1, -1, false},
		{3, 0, true}, {3, 2, true}, {3, 3, false}, {3, 4, false}, {3, -3, false}, {3, 1 << 32, false}, {3, least, false}, {3, most, false},
		{1000, 999, true}, {1000, 1000, false},
		// Of graphs that may not be, too.
		{-1, 0, false}, {-1, -1, false}, {-3, -2, false}, {least, 0, false}, {least, least, false}, {least, most, false},
		{1001, 1000, true}, {1001, 1001, false}, {1<<32 + 1, 5, true}, {most, most - 1, true}, {most, most, false}, {most, -1, false},
	} {
		if has := (graph.Graph{N: c.n}).Has(c.i); has != c.want {
			t.Errorf("Has(%d) of %d nodes is %t", c.i, c.n, has)
		}
	}
	// Nodes are there without arcs, and not because of one.
	g := graph.Graph{N: 2, Arcs: []graph.Arc{{From: 0, To: 5}, {From: 7, To: 0}}}
	if !g.Has(1) || g.Has(5) || g.Has(7) {
		t.Error("Has goes by arcs")
	}
}

func TestOutTold(t *testing.T) {
	g := graph.Graph{N: 5, Arcs: []graph.Arc{
		{From: 2, To: 0, Weight: 5}, {From: 0, To: 2}, {From: 2, To: 2}, {From: 4, To: 1}, {From: 2, To: 0, Weight: 5}, {From: 0, To: 4, Weight: -1},
	}}
	for i, want := range map[int][]int{0: {1, 5}, 1: nil, 2: {0, 2, 4}, 3: nil, 4: {3}, 5: nil, -1: nil, least: nil, most: nil, 1 << 32: nil} {
		if l := g.Out(i); !slices.Equal(l, want) {
			t.Errorf("Out(%d) is %v, not %v", i, l, want)
		}
	}
	for _, i := range []int{-1, 0, 1} {
		if l := (graph.Graph{}).Out(i); len(l) != 0 {
			t.Errorf("Out(%d) of none is %v", i, l)
		}
	}
}

// TestOutUnchecked: what Out tells are the arcs with that From, be the graph one that may be or not.
func TestOutUnchecked(t *testing.T) {
	g := graph.Graph{N: -4, Arcs: []graph.Arc{{From: -1, To: 9}, {From: 3}, {From: -1, Weight: most}, {From: most}, {From: least}}}
	for i, want := range map[int][]int{-1: {0, 2}, 3: {1}, most: {3}, least: {4}, 0: nil, 9: nil} {
		if l := g.Out(i); !slices.Equal(l, want) {
			t.Errorf("Out(%d) is %v, not %v", i, l, want)
		}
	}
}

// TestOutAll: all nodes' arcs are all arcs, each once, and rising.
func TestOutAll(t *testing.T) {
	r := rand.New(rand.NewSource(1))
	for range 2000 {
		g := random(r)
		times := make([]int, len(g.Arcs))
		for i := -1; i <= g.N; i++ {
			l := g.Out(i)
			if !slices.IsSorted(l) {
				t.Errorf("Out(%d) of %v is %v", i, g, l)
			}
			for _, k := range l {
				times[k]++
				if g.Arcs[k].From != i {
					t.Errorf("Out(%d) of %v has %d", i, g, k)
				}
			}
		}
		for k, n := range times {
			if n != 1 {
				t.Errorf("of %v the arc %d is told %d times", g, k, n)
			}
		}
	}
}

func TestTurnedTold(t *testing.T) {
	for _, c := range []struct{ g, want graph.Graph }{
		{graph.Graph{}, graph.Graph{}},
		{graph.Graph{N: 7}, graph.Graph{N: 7}},
		{graph.Graph{N: 3, Arcs: []graph.Arc{{0, 1, 2}, {1, 2, 3}}}, graph.Graph{N: 3, Arcs: []graph.Arc{{1, 0, 2}, {2, 1, 3}}}},
		{graph.Graph{N: 2, Arcs: []graph.Arc{{1, 0, -4}, {0, 0, 5}, {0, 1, 6}, {1, 0, -4}}}, graph.Graph{N: 2, Arcs: []graph.Arc{{0, 1, -4}, {0, 0, 5}, {1, 0, 6}, {0, 1, -4}}}},
		// Of graphs that may not be, too.
		{graph.Graph{N: -3, Arcs: []graph.Arc{{-1, 8, least}}}, graph.Graph{N: -3, Arcs: []graph.Arc{{8, -1, least}}}},
		{graph.Graph{N: most, Arcs: []graph.Arc{{least, most, most}}}, graph.Graph{N: most, Arcs: []graph.Arc{{most, least, most}}}},
	} {
		if got := c.g.Turned(); !same(got, c.want) {
			t.Errorf("%v Turned is %v, not %v", c.g, got, c.want)
		}
	}
	if g := full(20001); !same(g.Turned(), g) {
		t.Error("20001 arcs, turned, are others")
	}
}

// TestTurnedTwice: the other way round, twice, is as it was; once, one comes from where one came to.
func TestTurnedTwice(t *testing.T) {
	r := rand.New(rand.NewSource(2))
	for range 1000 {
		g := random(r)
		back := g.Turned()
		if !same(back.Turned(), g) {
			t.Errorf("%v Turned twice is %v", g, back.Turned())
		}
		for i := range g.N {
			there := g.Reach(i)
			for k := range g.N {
				if there[k] != back.Reach(k)[i] {
					t.Errorf("of %v from %d to %d: %t, but not so turned", g, i, k, there[k])
				}
			}
		}
	}
}

func TestReachTold(t *testing.T) {
	g := graph.Graph{N: 6, Arcs: []graph.Arc{{0, 1, -9}, {1, 2, 1 << 40}, {2, 0, 0}, {3, 1, 1}, {4, 4, 1}, {0, 2, 1}, {0, 2, 1}}}
	for from, want := range [][]bool{
		{true, true, true, false, false, false},
		{true, true, true, false, false, false},
		{true, true, true, false, false, false},
		{true, true, true, true, false, false},
		{false, false, false, false, true, false},
		{false, false, false, false, false, true},
	} {
		if l := g.Reach(from); !slices.Equal(l, want) {
			t.Errorf("Reach(%d) is %v, not %v", from, l, want)
		}
	}
	if l := (graph.Graph{N: 1}).Reach(0); !slices.Equal(l, []bool{true}) {
		t.Errorf("Reach of a node alone is %v", l)
	}
}

func TestReachNone(t *testing.T) {
	good := []graph.Arc{{0, 1, 1}, {1, 2, 1}}
	for _, from := range []int{-1, 3, 4, 1 << 32, least, most} {
		if l := (graph.Graph{N: 3, Arcs: good}).Reach(from); len(l) != 0 {
			t.Errorf("Reach(%d) is %v", from, l)
		}
	}
	if l := (graph.Graph{}).Reach(0); len(l) != 0 {
		t.Errorf("Reach of none is %v", l)
	}
	for _, g := range []graph.Graph{
		{N: -1}, {N: 1001, Arcs: good}, {N: least}, {N: most, Arcs: good},
		{N: 2, Arcs: good}, {N: 1, Arcs: good},
		{N: 3, Arcs: []graph.Arc{{0, 1, 1}, {-1, 0, 0}}},
		{N: 3, Arcs: []graph.Arc{{0, 1, 1}, {0, -1, 0}}},
		{N: 3, Arcs: []graph.Arc{{0, 1, 1}, {0, 3, 0}}},
		{N: 3, Arcs: []graph.Arc{{0, 1, 1<<40 + 1}}},
		{N: 3, Arcs: []graph.Arc{{1, 2, -1<<40 - 1}}},
		full(20001),
	} {
		for _, from := range []int{0, 1, -1} {
			if l := g.Reach(from); len(l) != 0 {
				t.Errorf("Reach(%d) of %d nodes and %d arcs is %v", from, g.N, len(g.Arcs), l)
			}
		}
	}
}

// TestReachFar: as far, and with as many arcs, as may be.
func TestReachFar(t *testing.T) {
	g := chain(1000)
	for _, from := range []int{0, 1, 500, 998, 999} {
		l := g.Reach(from)
		if len(l) != 1000 {
			t.Fatalf("Reach(%d) of a chain is %d long", from, len(l))
		}
		for i, come := range l {
			if come != (i >= from) {
				t.Errorf("Reach(%d) of a chain: %d is %t", from, i, come)
			}
		}
	}
	slices.Reverse(g.Arcs)
	if l := g.Reach(0); slices.Contains(l, false) || len(l) != 1000 {
		t.Error("a chain whose arcs are told from its end isn't gone through")
	}
	dense := graph.Graph{N: 1000}
	for i := range 20000 {
		dense.Arcs = append(dense.Arcs, graph.Arc{From: i % 999, To: i * 7 % 999, Weight: int64(i)})
	}
	dense.Arcs[19999] = graph.Arc{From: 999, To: 0}
	if l := dense.Reach(0); len(l) != 1000 || l[999] || !l[0] {
		t.Error("Reach of 20000 arcs is wrong")
	}
}

// closed: for each two nodes whether one comes from the one to the other, told apart from any search: by arcs between, node by node.
func closed(g graph.Graph) [][]bool {
	l := make([][]bool, g.N)
	for i := range l {
		l[i] = make([]bool, g.N)
		l[i][i] = true
	}
	for _, a := range g.Arcs {
		l[a.From][a.To] = true
	}
	for by := range l {
		for i := range l {
			for k := range l {
				l[i][k] = l[i][k] || l[i][by] && l[by][k]
			}
		}
	}
	return l
}

func TestReachAtRandom(t *testing.T) {
	r := rand.New(rand.NewSource(3))
	for range 5000 {
		g := random(r)
		want := closed(g)
		for from := range g.N {
			if l := g.Reach(from); !slices.Equal(l, want[from]) {
				t.Errorf("Reach(%d) of %v is %v, not %v", from, g, l, want[from])
			}
		}
	}
}

func TestJoinedTold(t *testing.T) {
	g := graph.Graph{N: 4, Arcs: []graph.Arc{{0, 1, 2}, {1, 2, 3}, {2, 0, -9}, {1, 1, 7}, {0, 1, 50}, {3, 3, 0}}}
	for _, c := range []struct {
		way      []int
		from, to int
		sum      int64
		ok       bool
	}{
		{[]int{0, 1}, 0, 2, 5, true},
		{[]int{0}, 0, 1, 2, true},
		{[]int{4}, 0, 1, 50, true},
		{[]int{2}, 2, 0, -9, true},
		{[]int{0, 1, 2}, 0, 0, -4, true},
		{[]int{1, 2, 0}, 1, 1, -4, true},
		{[]int{0, 1, 2, 4, 1}, 0, 2, 49, true},
		{[]int{0, 3, 3, 3, 1}, 0, 2, 26, true},
		{[]int{3}, 1, 1, 7, true},
		{[]int{5}, 3, 3, 0, true},
		// Of none.
		{nil, 0, 0, 0, true},
		{[]int{}, 3, 3, 0, true},
		{nil, 0, 1, 0, false},
		{nil, 3, 0, 0, false},
		{nil, 4, 4, 0, true},
		{nil, -1, -1, 0, true},
		{nil, least, most, 0, false},
		// The first one begins elsewhere, the last one ends elsewhere, those between don't join.
		{[]int{0, 1}, 1, 2, 0, false},
		{[]int{0, 1}, 0, 1, 0, false},
		{[]int{0, 1}, 0, 0, 0, false},
		{[]int{0, 1}, 3, 2, 0, false},
		{[]int{0, 1}, -1, 2, 0, false},
		{[]int{0, 1}, 0, 4, 0, false},
		{[]int{1, 0}, 0, 2, 0, false},
		{[]int{1, 0}, 1, 1, 0, false},
		{[]int{0, 2}, 0, 0, 0, false},
		{[]int{0, 0}, 0, 1, 0, false},
		{[]int{0, 1, 1}, 0, 2, 0, false},
		{[]int{0, 1, 5}, 0, 3, 0, false},
		{[]int{0, 3, 1, 3}, 0, 1, 0, false},
		// What is no arc's number: first, between, last.
		{[]int{6}, 0, 0, 0, false},
		{[]int{-1}, 0, 0, 0, false},
		{[]int{-1}, 3, 3, 0, false},
		{[]int{6}, 3, 3, 0, false},
		{[]int{0, -1}, 0, 1, 0, false},
		{[]int{0, 6}, 0, 1, 0, false},
		{[]int{-1, 0}, 0, 1, 0, false},
		{[]int{0, 6, 1}, 0, 2, 0, false},
		{[]int{0, least, 1}, 0, 2, 0, false},
		{[]int{0, most}, 0, 1, 0, false},
		{[]int{1 << 32}, 0, 1, 0, false},
		{[]int{1<<32 + 1, 1 << 32}, 1, 1, 0, false},
	} {
		if sum, ok := g.Joined(c.way, c.from, c.to); sum != c.sum || ok != c.ok {
			t.Errorf("Joined(%v, %d, %d) is %d, %t, not %d, %t", c.way, c.from, c.to, sum, ok, c.sum, c.ok)
		}
	}
}

// TestJoinedNoArcs: where there is no arc, only the way of none joins.
func TestJoinedNoArcs(t *testing.T) {
	for _, n := range []int{0, 1, -1, 2000} {
		g := graph.Graph{N: n}
		if sum, ok := g.Joined(nil, 0, 0); sum != 0 || !ok {
			t.Errorf("of %d nodes, the way of none: %d, %t", n, sum, ok)
		}
		if sum, ok := g.Joined([]int{0}, 0, 0); sum != 0 || ok {
			t.Errorf("of %d nodes, a way of one: %d, %t", n, sum, ok)
		}
	}
}

// TestJoinedUnchecked: arcs join by their From and To, be the graph one that may be or not; what they weigh goes round.
func TestJoinedUnchecked(t *testing.T) {
	g := graph.Graph{N: -2, Arcs: []graph.Arc{{-1, 7, most}, {7, 7, 1}, {7, -1, least}, {7, most, -3}}}
	for _, c := range []struct {
		way      []int
		from, to int
		sum      int64
	}{
		{[]int{0}, -1, 7, most},
		{[]int{0, 1}, -1, 7, least},
		{[]int{0, 1, 1, 1}, -1, 7, least + 2},
		{[]int{0, 2}, -1, -1, -1},
		{[]int{2, 0, 2, 0}, 7, 7, -2},
		{[]int{2, 0, 1, 2, 0, 3}, 7, most, -4},
	} {
		if sum, ok := g.Joined(c.way, c.from, c.to); sum != c.sum || !ok {
			t.Errorf("Joined(%v, %d, %d) is %d, %t, not %d", c.way, c.from, c.to, sum, ok, c.sum)
		}
	}
	// As long as it must be to go round where no arc weighs too much.
	long := make([]int, 1<<23)
	loop := graph.Graph{N: 1, Arcs: []graph.Arc{{0, 0, 1 << 40}}}
	if sum, ok := loop.Joined(long, 0, 0); sum != least || !ok {
		t.Errorf("2^23 arcs of 2^40 weigh %d, %t", sum, ok)
	}
}

// TestJoinedFar: a way as far as may be.
func TestJoinedFar(t *testing.T) {
	g := chain(1000)
	way := make([]int, len(g.Arcs))
	for k := range way {
		way[k] = k
	}
	if sum, ok := g.Joined(way, 0, 999); sum != 998*999/2 || !ok {
		t.Errorf("a chain weighs %d, %t", sum, ok)
	}
	if sum, ok := g.Joined(way[1:], 1, 999); sum != 998*999/2 || !ok {
		t.Errorf("a chain from 1 on weighs %d, %t", sum, ok)
	}
	if sum, ok := g.Joined(way[:998], 0, 999); sum != 0 || ok {
		t.Errorf("a chain without its last arc joins: %d", sum)
	}
}

// TestJoinedAtRandom: ways that are walked join; with an arc left out, or another one there, only where they are so again.
func TestJoinedAtRandom(t *testing.T) {
	r := rand.New(rand.NewSource(4))
	for range 20000 {
		g := random(r)
		from := r.Intn(g.N)
		at, sum, way := from, int64(0), []int(nil)
		for range r.Intn(8) {
			out := g.Out(at)
			if len(out) == 0 {
				break
			}
			k := out[r.Intn(len(out))]
			way, sum, at = append(way, k), sum+g.Arcs[k].Weight, g.Arcs[k].To
		}
		if got, ok := g.Joined(way, from, at); got != sum || !ok {
			t.Fatalf("of %v Joined(%v, %d, %d) is %d, %t, not %d", g, way, from, at, got, ok, sum)
		}
		other := slices.Clone(way)
		for i := range other {
			if r.Intn(3) == 0 {
				other[i] = r.Intn(len(g.Arcs)+2) - 1
			}
		}
		to := r.Intn(g.N)
		want, sure := walked(g, other, from, to)
		if got, ok := g.Joined(other, from, to); got != want || ok != sure {
			t.Fatalf("of %v Joined(%v, %d, %d) is %d, %t, not %d, %t", g, other, from, to, got, ok, want, sure)
		}
	}
}

// walked: what Joined must tell, by the words of its promise, one after the other.
func walked(g graph.Graph, way []int, from, to int) (int64, bool) {
	if len(way) == 0 {
		return 0, from == to
	}
	var l []graph.Arc
	for _, k := range way {
		if k < 0 || k > len(g.Arcs)-1 {
			return 0, false
		}
		l = append(l, g.Arcs[k])
	}
	ok, sum := l[0].From == from && l[len(l)-1].To == to, l[0].Weight
	for i := 1; i < len(l); i++ {
		ok = ok && l[i-1].To == l[i].From
		sum += l[i].Weight
	}
	if !ok {
		return 0, false
	}
	return sum, true
}

// TestLeavesWhatItGets: R5, spare room included.
func TestLeavesWhatItGets(t *testing.T) {
	all := []graph.Arc{{0, 1, 2}, {1, 2, 3}, {2, 2, 4}, {0, 2, 5}, {1, 0, 6}, {5, 5, 7}}
	ways := []int{0, 1, 2, 9, 9}
	beforeArcs, beforeWays := slices.Clone(all), slices.Clone(ways)
	g := graph.Graph{N: 3, Arcs: all[:4]}
	g.Check()
	g.Has(1)
	g.Out(0)
	g.Turned()
	g.Reach(0)
	if sum, ok := g.Joined(ways[:3], 0, 2); sum != 9 || !ok {
		t.Errorf("Joined is %d, %t", sum, ok)
	}
	if !slices.Equal(all, beforeArcs) || !slices.Equal(ways, beforeWays) {
		t.Errorf("what was handed in is %v and %v now", all, ways)
	}
}

// TestAnswersAreNew: R5 and R6: no answer shares anything with what was handed in, or with another answer.
func TestAnswersAreNew(t *testing.T) {
	g := graph.Graph{N: 3, Arcs: []graph.Arc{{0, 1, 2}, {0, 2, 3}, {1, 1, 4}}}
	before := slices.Clone(g.Arcs)
	out, turned, reach := g.Out(0), g.Turned(), g.Reach(0)
	for range 2 {
		again, turnedAgain, reachAgain := g.Out(0), g.Turned(), g.Reach(0)
		again[0], turnedAgain.Arcs[2], reachAgain[1] = 77, graph.Arc{From: 9}, false
		again, turnedAgain.Arcs = append(again, 5), append(turnedAgain.Arcs, graph.Arc{})
		if again[0] != 77 || len(turnedAgain.Arcs) != 4 {
			t.Error("answers can't be written to")
		}
	}
	if !slices.Equal(g.Arcs, before) {
		t.Errorf("the graph's arcs are %v now", g.Arcs)
	}
	if !slices.Equal(out, []int{0, 1}) || !slices.Equal(turned.Arcs, []graph.Arc{{1, 0, 2}, {2, 0, 3}, {1, 1, 4}}) || !slices.Equal(reach, []bool{true, true, true}) {
		t.Errorf("answers are %v, %v, %v now", out, turned, reach)
	}
	g.Arcs[0] = graph.Arc{From: 2, To: 2, Weight: -1}
	if !slices.Equal(out, []int{0, 1}) || turned.Arcs[0] != (graph.Arc{From: 1, To: 0, Weight: 2}) || !reach[1] {
		t.Error("answers hang on the graph's arcs")
	}
}

// TestAnything: P1 and R6: every call answers of any graph, and the same again.
func TestAnything(t *testing.T) {
	r := rand.New(rand.NewSource(5))
	for range 20000 {
		g := wild(r)
		i, from, to, way := int(number(r)), int(number(r)), int(number(r)), []int(nil)
		for range r.Intn(6) {
			way = append(way, int(number(r)))
		}
		code, has, out, turned, reach := g.Check(), g.Has(i), g.Out(i), g.Turned(), g.Reach(from)
		sum, ok := g.Joined(way, from, to)
		if want, sure := walked(g, way, from, to); sum != want || ok != sure {
			t.Errorf("of %v Joined(%v, %d, %d) is %d, %t, not %d, %t", g, way, from, to, sum, ok, want, sure)
		}
		if reached := code == api.OK && g.Has(from); reached != (len(reach) > 0) || reached && len(reach) != g.N {
			t.Errorf("of %v, whose Check is %d, Reach(%d) is %v", g, code, from, reach)
		}
		again, okAgain := g.Joined(way, from, to)
		if g.Check() != code || g.Has(i) != has || again != sum || okAgain != ok {
			t.Errorf("Check, Has or Joined of %v changes", g)
		}
		if !slices.Equal(g.Out(i), out) || !same(g.Turned(), turned) || !slices.Equal(g.Reach(from), reach) {
			t.Errorf("Out, Turned or Reach of %v changes", g)
		}
	}
}
