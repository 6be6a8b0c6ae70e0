package path_test

import (
	"math"
	"math/rand"
	"slices"
	"testing"

	"wharfage/api"
	"wharfage/graph"
	"wharfage/path"
)

const (
	least, most = math.MinInt64, math.MaxInt64
	heavy       = api.MaxWeight
	far         = api.Far
)

// rows are arcs: From, To and Weight of each.
type rows [][3]int64

// arcs: as a graph has them.
func (l rows) arcs() []graph.Arc {
	arcs := make([]graph.Arc, len(l))
	for k, a := range l {
		arcs[k] = graph.Arc{From: int(a[0]), To: int(a[1]), Weight: a[2]}
	}
	return arcs
}

// of: a graph of these.
func of(nodes int, l rows) graph.Graph { return graph.Graph{N: nodes, Arcs: l.arcs()} }

// empty: is it a tree's zero value?
func empty(t path.Tree) bool { return len(t.Far) == 0 && len(t.By) == 0 }

// same: all of two trees.
func same(a, b path.Tree) bool { return slices.Equal(a.Far, b.Far) && slices.Equal(a.By, b.By) }

// clone: a tree of its own memory.
func clone(t path.Tree) path.Tree {
	return path.Tree{Far: slices.Clone(t.Far), By: slices.Clone(t.By)}
}

// tight: By of a tree as P7.1 asks it: what is wrong, or nothing.
func tight(g graph.Graph, from int, t path.Tree) string {
	if len(t.Far) != g.N || len(t.By) != g.N {
		return "there aren't as many as there are nodes"
	}
	for i, k := range t.By {
		switch {
		case i == from || t.Far[i] == far:
			if k != -1 {
				return "an arc to the beginning, or to where one doesn't come"
			}
		case k < 0 || k >= len(g.Arcs):
			return "no arc"
		case g.Arcs[k].To != i:
			return "an arc to another node"
		case t.Far[g.Arcs[k].From] == far:
			return "an arc from where one doesn't come"
		case t.Far[g.Arcs[k].From]+g.Arcs[k].Weight != t.Far[i]:
			return "an arc that makes it no nearer, or nearer than it is"
		}
	}
	return rooted(g, from, t)
}

// rooted: whether by a tree's arcs one comes back to where it begins from each node that is come to.
func rooted(g graph.Graph, from int, t path.Tree) string {
	for i := range t.By {
		at := i
		for range g.N {
			if at != from && t.Far[i] != far {
				at = g.Arcs[t.By[at]].From
			}
		}
		if at != from && t.Far[i] != far {
			return "arcs that don't come back to the beginning"
		}
	}
	return ""
}

// hold: a tree is as far as is told, its By is tight, and its ways are as P7.3 asks them.
func hold(t *testing.T, what string, g graph.Graph, from int, tree path.Tree, want []int64) {
	t.Helper()
	if !slices.Equal(tree.Far, want) {
		t.Errorf("%s of %v from %d: Far is %v, not %v", what, g, from, tree.Far, want)
	}
	if wrong := tight(g, from, tree); wrong != "" {
		t.Errorf("%s of %v from %d: By is %v: %s", what, g, from, tree.By, wrong)
		return
	}
	for to := range g.N {
		way := tree.Way(g, to)
		if to == from || tree.Far[to] == far {
			if len(way) != 0 {
				t.Errorf("%s of %v from %d: Way to %d is %v", what, g, from, to, way)
			}
			continue
		}
		if sum, ok := g.Joined(way, from, to); sum != tree.Far[to] || !ok {
			t.Errorf("%s of %v from %d: Way to %d is %v, of %d, %t", what, g, from, to, way, sum, ok)
		}
		for _, k := range way {
			if tree.By[g.Arcs[k].To] != k {
				t.Errorf("%s of %v from %d: Way to %d is %v, but By is %v", what, g, from, to, way, tree.By)
			}
		}
	}
}

// bad: a cycle that isn't as P7.2 asks it: why, or nothing.
func bad(g graph.Graph, from int, cycle []int) string {
	if len(cycle) == 0 {
		return "none"
	}
	for _, k := range cycle {
		if k < 0 || k >= len(g.Arcs) {
			return "no arc"
		}
	}
	on := g.Arcs[cycle[0]].From
	if sum, ok := g.Joined(cycle, on, on); !ok || sum >= 0 {
		return "it is no cycle, or weighs too much"
	}
	if !g.Reach(from)[on] {
		return "one doesn't come to it"
	}
	return ""
}

// cyclic: From answers ErrCycle, and Cycle one.
func cyclic(t *testing.T, g graph.Graph, from int) {
	t.Helper()
	if tree, e := path.From(g, from); e != api.ErrCycle || !empty(tree) {
		t.Errorf("From %d of %d nodes, %d arcs is %v, %d", from, g.N, len(g.Arcs), tree, e)
	}
	if l := path.Cycle(g, from); bad(g, from, l) != "" {
		t.Errorf("Cycle from %d of %d nodes, %d arcs is %v: %s", from, g.N, len(g.Arcs), l, bad(g, from, l))
	}
}

// acyclic: From answers a tree that is so far, and Cycle none.
func acyclic(t *testing.T, g graph.Graph, from int, want []int64) {
	t.Helper()
	tree, e := path.From(g, from)
	if e != api.OK {
		t.Errorf("From %d of %d nodes, %d arcs is %d", from, g.N, len(g.Arcs), e)
	}
	hold(t, "From", g, from, tree, want)
	if l := path.Cycle(g, from); len(l) != 0 {
		t.Errorf("Cycle from %d of %d nodes, %d arcs is %v", from, g.N, len(g.Arcs), l)
	}
}

func TestExamples(t *testing.T) {
	g := of(3, rows{{0, 1, 2}, {1, 2, -1}, {0, 2, 3}})
	tree, e := path.From(g, 0)
	if e != api.OK || !slices.Equal(tree.Far, []int64{0, 2, 1}) || !slices.Equal(tree.By, []int{-1, 0, 1}) {
		t.Errorf("From is %v, %d", tree, e)
	}
	if l := tree.Way(g, 2); !slices.Equal(l, []int{0, 1}) {
		t.Errorf("Way is %v", l)
	}
	acyclic(t, g, 0, []int64{0, 2, 1})
	g.Arcs = append(g.Arcs, graph.Arc{From: 2, To: 0, Weight: -2})
	for from := range 3 {
		cyclic(t, g, from)
		l := path.Cycle(g, from)
		on := g.Arcs[l[0]].From
		if sum, _ := g.Joined(l, on, on); sum != -1 {
			t.Errorf("the cycle %v weighs %d", l, sum)
		}
	}
}

// TestTold: how far all is, by hand.
func TestTold(t *testing.T) {
	for _, c := range []struct {
		g    graph.Graph
		from int
		want []int64
	}{
		{graph.Graph{N: 1}, 0, []int64{0}},
		{graph.Graph{N: 3}, 1, []int64{far, 0, far}},
		{of(2, rows{{0, 1, 0}}), 0, []int64{0, 0}},
		{of(2, rows{{0, 1, 0}}), 1, []int64{far, 0}},
		// Several arcs between the same nodes, of which the lightest stands first, last, between.
		{of(2, rows{{0, 1, 4}, {0, 1, 5}, {0, 1, 6}}), 0, []int64{0, 4}},
		{of(2, rows{{0, 1, 6}, {0, 1, 5}, {0, 1, 4}}), 0, []int64{0, 4}},
		{of(2, rows{{0, 1, 6}, {0, 1, 4}, {0, 1, 5}}), 0, []int64{0, 4}},
		{of(2, rows{{0, 1, -6}, {0, 1, -4}, {0, 1, -5}}), 0, []int64{0, -6}},
		// More arcs may weigh less, and fewer.
		{of(4, rows{{0, 3, 10}, {0, 1, 1}, {1, 2, 1}, {2, 3, 1}}), 0, []int64{0, 1, 2, 3}},
		{of(4, rows{{0, 3, 2}, {0, 1, 1}, {1, 2, 1}, {2, 3, 1}}), 0, []int64{0, 1, 2, 2}},
		{of(4, rows{{0, 3, 3}, {0, 1, 1}, {1, 2, 1}, {2, 3, 1}}), 0, []int64{0, 1, 2, 3}},
		// What was near gets nearer once more, and what is behind it with it.
		{of(5, rows{{3, 4, 1}, {0, 3, 9}, {0, 1, 5}, {1, 3, 3}, {0, 2, 6}, {2, 3, 1}}), 0, []int64{0, 5, 6, 7, 8}},
		{of(4, rows{{2, 3, 1}, {1, 2, -9}, {0, 2, 1}, {0, 1, 5}}), 0, []int64{0, 5, -4, -3}},
		// Cycles that weigh something, or nothing: through the beginning, and elsewhere; of one arc, and of several.
		{of(2, rows{{0, 0, 0}, {0, 1, 3}, {1, 1, 0}, {1, 1, 7}, {0, 0, 7}}), 0, []int64{0, 3}},
		{of(2, rows{{0, 1, 0}, {1, 0, 0}}), 0, []int64{0, 0}},
		{of(2, rows{{0, 1, -8}, {1, 0, 8}}), 0, []int64{0, -8}},
		{of(2, rows{{0, 1, -8}, {1, 0, 8}}), 1, []int64{8, 0}},
		{of(4, rows{{3, 1, 0}, {2, 3, 0}, {1, 2, 0}, {0, 1, 0}}), 0, []int64{0, 0, 0, 0}},
		{of(4, rows{{3, 1, 4}, {2, 3, -5}, {1, 2, 1}, {0, 1, 2}}), 0, []int64{0, 2, 3, -2}},
		// A cycle that weighs less than nothing, to which one doesn't come.
		{of(4, rows{{0, 1, 2}, {2, 2, -1}, {2, 1, -50}, {3, 0, -1}, {2, 3, 1}}), 0, []int64{0, 2, far, far}},
	} {
		acyclic(t, c.g, c.from, c.want)
		tree, e := path.Near(c.g, c.from)
		if slices.ContainsFunc(c.g.Arcs, func(a graph.Arc) bool { return a.Weight < 0 }) {
			if e != api.ErrRange || !empty(tree) {
				t.Errorf("Near of %v from %d is %v, %d", c.g, c.from, tree, e)
			}
			continue
		}
		if e != api.OK {
			t.Errorf("Near of %v from %d is %d", c.g, c.from, e)
		}
		hold(t, "Near", c.g, c.from, tree, c.want)
	}
}

// TestCycleTold: cycles that weigh less than nothing, near and further away.
func TestCycleTold(t *testing.T) {
	for _, c := range []struct {
		g    graph.Graph
		from int
	}{
		{of(1, rows{{0, 0, -1}}), 0},
		{of(1, rows{{0, 0, 5}, {0, 0, -1}, {0, 0, 0}}), 0},
		{of(3, rows{{2, 2, -1}, {1, 2, 50}, {0, 1, 50}}), 0},
		{of(2, rows{{0, 1, 1}, {1, 0, -2}}), 0},
		{of(2, rows{{0, 1, 1}, {1, 0, -2}}), 1},
		{of(4, rows{{0, 1, 9}, {1, 2, 1}, {2, 1, -2}, {2, 3, 1}}), 0},
		// One that weighs nothing stands beside.
		{of(4, rows{{0, 1, 0}, {1, 0, 0}, {1, 2, 0}, {2, 3, 4}, {3, 2, -5}}), 0},
		// The same nodes: with the other arc there is none.
		{of(3, rows{{0, 1, 1}, {1, 2, 2}, {2, 1, 2}, {1, 2, -3}}), 0},
		// Two of them.
		{of(5, rows{{0, 1, 1}, {1, 2, 1}, {2, 1, -2}, {0, 3, 1}, {3, 4, -1}, {4, 3, 0}}), 0},
	} {
		cyclic(t, c.g, c.from)
		if tree, e := path.Near(c.g, c.from); e != api.ErrRange || !empty(tree) {
			t.Errorf("Near of %v from %d is %v, %d", c.g, c.from, tree, e)
		}
	}
}

// refused: what all calls answer where a graph may not be, or there is no such node.
func refused(t *testing.T, g graph.Graph, from int, want api.Errno) {
	t.Helper()
	if tree, e := path.From(g, from); e != want || !empty(tree) {
		t.Errorf("From %d of %d nodes, %d arcs is %v, %d, not %d", from, g.N, len(g.Arcs), tree, e, want)
	}
	if tree, e := path.Near(g, from); e != want || !empty(tree) {
		t.Errorf("Near %d of %d nodes, %d arcs is %v, %d, not %d", from, g.N, len(g.Arcs), tree, e, want)
	}
	if l := path.Cycle(g, from); len(l) != 0 {
		t.Errorf("Cycle from %d of %d nodes, %d arcs is %v", from, g.N, len(g.Arcs), l)
	}
}

// TestErrors: chapter 6's errors come first; then that there is no node from.
func TestErrors(t *testing.T) {
	good := rows{{0, 1, 1}, {1, 2, 1}}.arcs()
	round := rows{{0, 1, 1}, {1, 0, -2}}.arcs()
	wrong := rows{{3, 0, 0}, {0, 3, 0}, {-1, 0, 0}, {0, -1, 0}, {0, 1, heavy + 1}, {0, 1, -heavy - 1}, {2, 2, most}, {2, 2, least}}.arcs()
	for _, from := range []int{0, 1, -1, 5, 2000, least, most} {
		for _, n := range []int{-1, 1001, least, most} {
			refused(t, graph.Graph{N: n}, from, api.ErrSize)
			refused(t, graph.Graph{N: n, Arcs: round}, from, api.ErrSize)
			refused(t, of(n, rows{{-1, 0, most}}), from, api.ErrSize)
		}
		refused(t, graph.Graph{N: 1, Arcs: make([]graph.Arc, 20001)}, from, api.ErrSize)
		for _, a := range wrong {
			refused(t, graph.Graph{N: 3, Arcs: append(slices.Clone(good), a)}, from, api.ErrRange)
			refused(t, graph.Graph{N: 3, Arcs: append([]graph.Arc{a}, round...)}, from, api.ErrRange)
		}
		refused(t, graph.Graph{}, from, api.ErrRange)
		refused(t, graph.Graph{Arcs: good}, from, api.ErrRange)
	}
	for _, from := range []int{-1, 3, 4, 1 << 32, -1 << 32, least, most} {
		refused(t, graph.Graph{N: 3}, from, api.ErrRange)
		refused(t, graph.Graph{N: 3, Arcs: good}, from, api.ErrRange)
		// Where there is no node from, there is no cycle to which one comes from it.
		refused(t, graph.Graph{N: 3, Arcs: round}, from, api.ErrRange)
	}
	refused(t, graph.Graph{N: 1000}, 1000, api.ErrRange)
}

// TestNearLess: an arc that weighs less than nothing is too much for Near, wherever it stands, and whether one comes to it or not; one that weighs nothing isn't.
func TestNearLess(t *testing.T) {
	for _, weight := range []int64{-1, -2, -heavy} {
		for at := range 4 {
			g := of(4, rows{{0, 1, 1}, {1, 2, 1}, {3, 0, 1}, {3, 3, 1}})
			g.Arcs[at].Weight = weight
			for from := range g.N {
				if tree, e := path.Near(g, from); e != api.ErrRange || !empty(tree) {
					t.Errorf("Near of %v from %d is %v, %d", g, from, tree, e)
				}
			}
			g.Arcs[at].Weight = 0
			if _, e := path.Near(g, 0); e != api.OK {
				t.Errorf("Near of %v is %d", g, e)
			}
		}
	}
}

// TestWayTold: where there is a way, and where there is none.
func TestWayTold(t *testing.T) {
	g := of(5, rows{{2, 3, 1}, {1, 2, 1}, {0, 1, 1}, {4, 0, 1}, {0, 0, 0}, {3, 0, 0}})
	for _, search := range []func(graph.Graph, int) (path.Tree, api.Errno){path.From, path.Near} {
		tree, _ := search(g, 0)
		for to, want := range map[int][]int{
			0: nil, 1: {2}, 2: {2, 1}, 3: {2, 1, 0}, 4: nil,
			5: nil, 6: nil, -1: nil, -2: nil, 1 << 32: nil, least: nil, most: nil,
		} {
			if l := tree.Way(g, to); !slices.Equal(l, want) {
				t.Errorf("Way to %d is %v, not %v", to, l, want)
			}
		}
	}
}

// TestWayByTree: which arcs a way has hangs on the tree, where more than one is tight.
func TestWayByTree(t *testing.T) {
	g := of(4, rows{{0, 1, 1}, {0, 2, 1}, {1, 3, 1}, {2, 3, 1}, {0, 3, 2}})
	for by, want := range map[int][]int{2: {0, 2}, 3: {1, 3}, 4: {4}} {
		tree := path.Tree{Far: []int64{0, 1, 1, 2}, By: []int{-1, 0, 1, by}}
		if l := tree.Way(g, 3); !slices.Equal(l, want) {
			t.Errorf("Way by %d is %v, not %v", by, l, want)
		}
	}
}

// TestWayOfOther: P1: of what is no tree of the graph, Way ends all the same.
func TestWayOfOther(t *testing.T) {
	g := of(3, rows{{0, 1, 1}, {1, 0, 1}, {1, 1, 0}, {-5, 2, 1}, {7, 2, 1}, {least, most, 0}})
	for _, by := range [][]int{
		nil, {}, {-1}, {1, 0, -1}, {1, 0, 0}, {2, 2, 2}, {1, 2, 3}, {4, 4, 4}, {5, 5, 5}, {3, 3, 3}, {6, 7, 8}, {least, most, 1 << 32}, {1, 0, 1, 0, 1, 0, 1, 0}, {-2, -3, 0, 4, 4, 4, 4, 4},
	} {
		for _, far := range [][]int64{nil, {0}, {0, 1, 2}, {most, least, most, least}} {
			tree := path.Tree{Far: far, By: by}
			for to := -2; to < 10; to++ {
				l := tree.Way(g, to)
				if again := tree.Way(g, to); !slices.Equal(l, again) {
					t.Errorf("Way of %v to %d is %v, then %v", tree, to, l, again)
				}
			}
			for _, to := range []int{least, most, 1 << 32} {
				if l := tree.Way(g, to); len(l) != 0 {
					t.Errorf("Way of %v to %d is %v", tree, to, l)
				}
			}
			tree.Way(graph.Graph{}, 0)
			tree.Way(graph.Graph{N: -1, Arcs: g.Arcs}, 1)
			tree.Way(graph.Graph{N: most}, 1)
		}
	}
}

// chain: as many nodes as may be, each with an arc to the one behind it, all of one weight.
func chain(weight int64) graph.Graph {
	g := graph.Graph{N: api.MaxNodes}
	for i := range g.N - 1 {
		g.Arcs = append(g.Arcs, graph.Arc{From: i, To: i + 1, Weight: weight})
	}
	return g
}

// TestFar: as far as may be, with the greatest weights, and the least.
func TestFar(t *testing.T) {
	for _, weight := range []int64{0, 1, -1, heavy, -heavy} {
		g := chain(weight)
		var want []int64
		for i := range g.N {
			want = append(want, int64(i)*weight)
		}
		for range 2 {
			acyclic(t, g, 0, want)
			if weight >= 0 {
				tree, e := path.Near(g, 0)
				if e != api.OK {
					t.Errorf("Near of a chain is %d", e)
				}
				hold(t, "Near", g, 0, tree, want)
			}
			slices.Reverse(g.Arcs)
		}
	}
}

// TestLongCycle: a cycle of all nodes, or far away, that weighs 1 less than nothing; and nothing.
func TestLongCycle(t *testing.T) {
	g := chain(heavy)
	for i := range g.Arcs {
		if i%2 == 1 {
			g.Arcs[i].Weight = -heavy
		}
	}
	var want []int64
	for i := range g.N {
		want = append(want, int64(i%2)*heavy)
	}
	g.Arcs = append(g.Arcs, graph.Arc{From: 999, To: 0, Weight: -heavy})
	acyclic(t, g, 0, want)
	g.Arcs[998].Weight--
	for _, from := range []int{0, 1, 500, 998, 999} {
		cyclic(t, g, from)
	}
	slices.Reverse(g.Arcs)
	cyclic(t, g, 0)
	away := chain(heavy)
	away.Arcs = append(away.Arcs, graph.Arc{From: 999, To: 999, Weight: -1})
	cyclic(t, away, 0)
	away.Arcs[999].Weight = 0
	acyclic(t, away, 998, append(slices.Repeat([]int64{far}, 998), 0, heavy))
}

// TestManyTimesRound: as many arcs as may be go round, as light as may be: what they weigh, from first to last and back, stays below nothing.
func TestManyTimesRound(t *testing.T) {
	g := graph.Graph{N: 1000}
	for i := range api.MaxArcs {
		g.Arcs = append(g.Arcs, graph.Arc{From: i % 2, To: 1 - i%2, Weight: -heavy})
	}
	cyclic(t, g, 0)
	cyclic(t, g, 1)
	acyclic(t, g, 2, append(append(slices.Repeat([]int64{far}, 2), 0), slices.Repeat([]int64{far}, 997)...))
	all := graph.Graph{N: 1000}
	for i := range api.MaxArcs {
		all.Arcs = append(all.Arcs, graph.Arc{From: i % 1000, To: (i + 1) % 1000, Weight: -heavy})
	}
	cyclic(t, all, 0)
	cyclic(t, all, 999)
}

// TestManyArcs: as many arcs as may be: side by side, each one lighter than the one ahead of it; and between all nodes, drawn.
func TestManyArcs(t *testing.T) {
	g := graph.Graph{N: 3}
	for i := range int64(api.MaxArcs / 2) {
		g.Arcs = append(g.Arcs, graph.Arc{From: 0, To: 1, Weight: 20000 - i}, graph.Arc{From: 1, To: 2, Weight: 20000 - i})
	}
	acyclic(t, g, 0, []int64{0, 10001, 20002})
	tree, e := path.Near(g, 0)
	if e != api.OK {
		t.Errorf("Near is %d", e)
	}
	hold(t, "Near", g, 0, tree, []int64{0, 10001, 20002})
	r := rand.New(rand.NewSource(1))
	drawn := graph.Graph{N: 1000}
	for range api.MaxArcs {
		drawn.Arcs = append(drawn.Arcs, graph.Arc{From: r.Intn(1000), To: r.Intn(1000), Weight: r.Int63n(1 << 30)})
	}
	// Two calls that don't search alike.
	near, e := path.Near(drawn, 7)
	if e != api.OK {
		t.Errorf("Near is %d", e)
	}
	acyclic(t, drawn, 7, near.Far)
	hold(t, "Near", drawn, 7, near, near.Far)
}

// walk goes all ways from a node by nodes that weren't seen, and tells where each ends, and what it weighs.
func walk(g graph.Graph, at int, sum int64, seen []bool, tell func(at int, sum int64)) {
	tell(at, sum)
	seen[at] = true
	for _, a := range g.Arcs {
		if a.From == at && !seen[a.To] {
			walk(g, a.To, sum+a.Weight, seen, tell)
		}
	}
	seen[at] = false
}

// lightest: how far all is from a node, by all ways that go through no node twice; true, if from one that is come to an arc closes a cycle that weighs less than nothing.
func lightest(g graph.Graph, from int) ([]int64, bool) {
	l := slices.Repeat([]int64{far}, g.N)
	walk(g, from, 0, make([]bool, g.N), func(at int, sum int64) { l[at] = min(l[at], sum) })
	less := false
	for on := range g.N {
		if l[on] == far {
			continue
		}
		walk(g, on, 0, make([]bool, g.N), func(at int, sum int64) {
			for _, a := range g.Arcs {
				less = less || a.From == at && a.To == on && sum+a.Weight < 0
			}
		})
	}
	return l, less
}

// random: a graph that may be, with few nodes; its arcs' weights are drawn from least on, or such that no cycle weighs less than nothing, but many nothing.
func random(r *rand.Rand) graph.Graph {
	g := graph.Graph{N: 1 + r.Intn(6)}
	level, from := make([]int64, g.N), -r.Int63n(6)
	for i := range level {
		level[i] = r.Int63n(9)
	}
	flat := r.Intn(3) == 0
	for range r.Intn(13) {
		a := graph.Arc{From: r.Intn(g.N), To: r.Intn(g.N), Weight: from + r.Int63n(10)}
		if flat {
			a.Weight = level[a.To] - level[a.From] + r.Int63n(2)*r.Int63n(2)
		}
		g.Arcs = append(g.Arcs, a)
	}
	return g
}

// TestAtRandom: small graphs, beside all ways through them.
func TestAtRandom(t *testing.T) {
	r := rand.New(rand.NewSource(2))
	cycles, trees, nears := 0, 0, 0
	for range 20000 {
		g := random(r)
		for from := range g.N {
			want, less := lightest(g, from)
			if less {
				cycles++
				cyclic(t, g, from)
			} else {
				trees++
				acyclic(t, g, from, want)
			}
			tree, e := path.Near(g, from)
			if slices.ContainsFunc(g.Arcs, func(a graph.Arc) bool { return a.Weight < 0 }) {
				if e != api.ErrRange || !empty(tree) {
					t.Errorf("Near of %v from %d is %v, %d", g, from, tree, e)
				}
				continue
			}
			nears++
			if e != api.OK {
				t.Errorf("Near of %v from %d is %d", g, from, e)
			}
			hold(t, "Near", g, from, tree, want)
		}
	}
	if cycles < 5000 || trees < 5000 || nears < 5000 {
		t.Errorf("of the draws there are %d with cycles, %d without, %d for Near", cycles, trees, nears)
	}
}

// TestLeavesWhatItGets: R5, spare room included.
func TestLeavesWhatItGets(t *testing.T) {
	all := rows{{0, 1, 2}, {1, 2, 3}, {2, 0, 4}, {0, 2, 9}, {1, 1, -1}, {5, 5, 7}}.arcs()
	before := slices.Clone(all)
	for n := range 6 {
		g := graph.Graph{N: 3, Arcs: all[:n]}
		from, _ := path.From(g, 0)
		near, _ := path.Near(g, 0)
		path.Cycle(g, 0)
		if !slices.Equal(all, before) {
			t.Fatalf("the arcs are %v now", all)
		}
		for _, tree := range []path.Tree{from, near} {
			kept := clone(tree)
			for to := range 3 {
				tree.Way(g, to)
			}
			if !same(tree, kept) || !slices.Equal(all, before) {
				t.Fatalf("the tree is %v now, the arcs are %v", tree, all)
			}
		}
	}
	// Room behind a tree's ends.
	far, by := []int64{0, 2, 5, 77, 77}, []int{-1, 0, 1, 77, 77}
	tree := path.Tree{Far: far[:3], By: by[:3]}
	if l := tree.Way(graph.Graph{N: 3, Arcs: all[:3]}, 2); !slices.Equal(l, []int{0, 1}) {
		t.Errorf("Way is %v", l)
	}
	if !slices.Equal(far, []int64{0, 2, 5, 77, 77}) || !slices.Equal(by, []int{-1, 0, 1, 77, 77}) {
		t.Errorf("what is behind the tree is %v, %v now", far, by)
	}
}

// spoil writes over all that a tree has, and behind it.
func spoil(t path.Tree) {
	for i := range t.Far {
		t.Far[i] = 99
	}
	for i := range t.By {
		t.By[i] = 99
	}
	t.Far, t.By = append(t.Far, 98), append(t.By, 98)
}

// TestAnswersAreNew: R5 and R6: no answer shares anything with what was handed in, or with another answer.
func TestAnswersAreNew(t *testing.T) {
	g := of(3, rows{{0, 1, 2}, {1, 2, 3}, {0, 2, 9}})
	loop := of(2, rows{{0, 1, 1}, {1, 0, -2}})
	before := slices.Clone(g.Arcs)
	for _, search := range []func(graph.Graph, int) (path.Tree, api.Errno){path.From, path.Near} {
		first, _ := search(g, 0)
		kept, way, cycle := clone(first), first.Way(g, 2), path.Cycle(loop, 0)
		keptWay, keptCycle := slices.Clone(way), slices.Clone(cycle)
		for range 2 {
			again, _ := search(g, 0)
			if !same(again, kept) {
				t.Fatalf("%v, then %v", kept, again)
			}
			wayAgain, cycleAgain := again.Way(g, 2), path.Cycle(loop, 0)
			if !slices.Equal(wayAgain, keptWay) || !slices.Equal(cycleAgain, keptCycle) {
				t.Fatalf("%v and %v, then %v and %v", keptWay, keptCycle, wayAgain, cycleAgain)
			}
			wayAgain[0], cycleAgain[0] = 99, 99
			if !same(again, kept) {
				t.Fatalf("a way shares what the tree has: %v", again)
			}
			spoil(again)
		}
		if !same(first, kept) || !slices.Equal(way, keptWay) || !slices.Equal(cycle, keptCycle) || !slices.Equal(g.Arcs, before) {
			t.Errorf("the answers are %v, %v and %v now, the arcs %v", first, way, cycle, g.Arcs)
		}
		g.Arcs[0].Weight = 1
		if !same(first, kept) {
			t.Errorf("the tree hangs on the graph's arcs: %v", first)
		}
		g.Arcs[0].Weight = 2
	}
}

// number: mostly a small one, else one of any size.
func number(r *rand.Rand) int64 {
	if r.Intn(10) > 0 {
		return r.Int63n(6) - 1
	}
	return int64(r.Uint64()) >> r.Intn(64)
}

// TestAnything: P1 and R6: every call answers of any graph, and the same again.
func TestAnything(t *testing.T) {
	r := rand.New(rand.NewSource(3))
	for range 20000 {
		g := graph.Graph{N: int(number(r))}
		for range r.Intn(9) {
			g.Arcs = append(g.Arcs, graph.Arc{From: int(number(r)), To: int(number(r)), Weight: number(r)})
		}
		from, to := int(number(r)), int(number(r))
		tree, code := path.From(g, from)
		near, codeNear := path.Near(g, from)
		cycle := path.Cycle(g, from)
		if want := g.Check(); want != api.OK && (code != want || codeNear != want) {
			t.Errorf("of %v, whose Check is %d, From is %d, Near is %d", g, want, code, codeNear)
		}
		if code != api.OK && !empty(tree) || codeNear != api.OK && !empty(near) || (code == api.ErrCycle) != (len(cycle) > 0) {
			t.Errorf("of %v from %d: %v, %d; %v, %d; %v", g, from, tree, code, near, codeNear, cycle)
		}
		wild := path.Tree{}
		for range r.Intn(9) {
			wild.Far, wild.By = append(wild.Far, number(r)), append(wild.By, int(number(r)))
		}
		way, wildWay := tree.Way(g, to), wild.Way(g, to)
		treeAgain, codeAgain := path.From(g, from)
		nearAgain, codeNearAgain := path.Near(g, from)
		if !same(tree, treeAgain) || !same(near, nearAgain) || code != codeAgain || codeNear != codeNearAgain || !slices.Equal(cycle, path.Cycle(g, from)) {
			t.Errorf("From, Near or Cycle of %v from %d changes", g, from)
		}
		if !slices.Equal(way, tree.Way(g, to)) || !slices.Equal(wildWay, wild.Way(g, to)) {
			t.Errorf("Way of %v or of %v to %d changes", tree, wild, to)
		}
	}
}
