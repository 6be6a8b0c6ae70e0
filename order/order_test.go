package order_test

import (
	"math"
	"math/rand"
	"slices"
	"testing"

	"wharfage/api"
	"wharfage/graph"
	"wharfage/order"
)

const (
	least, most = math.MinInt64, math.MaxInt64
	heavy       = api.MaxWeight
	latest      = 1 << 50
)

// rows are arcs: From, To and Weight of each.
type rows [][3]int64

// of: a graph of these.
func of(nodes int, l rows) graph.Graph {
	g := graph.Graph{N: nodes, Arcs: make([]graph.Arc, len(l))}
	for k, a := range l {
		g.Arcs[k] = graph.Arc{From: int(a[0]), To: int(a[1]), Weight: a[2]}
	}
	return g
}

// noughts: a number for each node of a graph, if it hasn't too many.
func noughts(g graph.Graph) []int64 { return make([]int64, max(0, min(g.N, 2000))) }

// bad: a cycle that isn't as P8.1 asks it, or goes over a node twice: why, or nothing.
func bad(g graph.Graph, cycle []int) string {
	if len(cycle) == 0 {
		return "none"
	}
	over := map[int]int{}
	for _, k := range cycle {
		if k < 0 || k >= len(g.Arcs) {
			return "no arc"
		}
		over[g.Arcs[k].From]++
		if over[g.Arcs[k].From] > 1 {
			return "a node stands twice on it"
		}
	}
	on := g.Arcs[cycle[0]].From
	if _, ok := g.Joined(cycle, on, on); !ok {
		return "its arcs don't join"
	}
	return ""
}

// cyclic: what all calls answer of a graph that has a cycle.
func cyclic(t *testing.T, g graph.Graph) {
	t.Helper()
	if l, ok := order.Sort(g); ok || len(l) != 0 {
		t.Errorf("Sort of %d nodes, %d arcs is %v, %t", g.N, len(g.Arcs), l, ok)
	}
	if l := order.Cycle(g); bad(g, l) != "" {
		t.Errorf("Cycle of %d nodes, %d arcs is %v: %s", g.N, len(g.Arcs), l, bad(g, l))
	}
	if l, e := order.Late(g, noughts(g)); e != api.ErrCycle || len(l) != 0 {
		t.Errorf("Late of %d nodes, %d arcs is %v, %d", g.N, len(g.Arcs), l, e)
	}
}

// sorted: Sort and Cycle of a graph that has no cycle.
func sorted(t *testing.T, g graph.Graph, want []int) {
	t.Helper()
	if l, ok := order.Sort(g); !ok || !slices.Equal(l, want) {
		t.Errorf("Sort of %d nodes, arcs %v is %v, %t, not %v", g.N, few(g), l, ok, want)
	}
	if l := order.Cycle(g); len(l) != 0 {
		t.Errorf("Cycle of %d nodes, arcs %v is %v", g.N, few(g), l)
	}
}

// late: Late of a graph that has no cycle.
func late(t *testing.T, g graph.Graph, from, want []int64) {
	t.Helper()
	if l, e := order.Late(g, from); e != api.OK || !slices.Equal(l, want) {
		t.Errorf("Late of %d nodes, arcs %v, with %v is %v, %d, not %v", g.N, few(g), from, l, e, want)
	}
}

// few: as many arcs as can be read.
func few(g graph.Graph) []graph.Arc { return g.Arcs[:min(len(g.Arcs), 12)] }

func TestExamples(t *testing.T) {
	g := of(3, rows{{2, 0, 5}, {1, 0, 1}})
	sorted(t, g, []int{1, 2, 0})
	late(t, g, []int64{0, 9, 3}, []int64{10, 9, 3})
}

// TestSortTold: sorted by hand.
func TestSortTold(t *testing.T) {
	for _, c := range []struct {
		g    graph.Graph
		want []int
	}{
		{graph.Graph{}, nil},
		{graph.Graph{N: 1}, []int{0}},
		{graph.Graph{N: 4}, []int{0, 1, 2, 3}},
		{of(2, rows{{0, 1, 0}}), []int{0, 1}},
		{of(2, rows{{1, 0, 0}}), []int{1, 0}},
		// Weights say nothing, nor does the order of the arcs.
		{of(3, rows{{2, 1, -heavy}, {1, 0, heavy}}), []int{2, 1, 0}},
		{of(3, rows{{1, 0, heavy}, {2, 1, -heavy}}), []int{2, 1, 0}},
		// The same arc several times.
		{of(3, rows{{2, 0, 1}, {2, 0, 1}, {2, 0, 7}}), []int{1, 2, 0}},
		{of(3, rows{{2, 1, 1}, {2, 0, 1}, {2, 1, 7}, {0, 1, 0}}), []int{2, 0, 1}},
		// A lesser node that comes free late goes ahead of greater ones that could be next for long.
		{of(5, rows{{3, 0, 0}}), []int{1, 2, 3, 0, 4}},
		{of(5, rows{{1, 0, 0}}), []int{1, 0, 2, 3, 4}},
		{of(6, rows{{5, 0, 0}, {4, 1, 0}}), []int{2, 3, 4, 1, 5, 0}},
		// Behind all From, not behind the first or the last one.
		{of(4, rows{{1, 0, 0}, {3, 0, 0}, {2, 0, 0}}), []int{1, 2, 3, 0}},
		{of(4, rows{{3, 0, 0}, {1, 0, 0}, {2, 0, 0}}), []int{1, 2, 3, 0}},
		// Which one is least isn't how near it is to what comes first, nor who came free first.
		{of(6, rows{{0, 5, 0}, {0, 3, 0}, {3, 1, 0}, {5, 2, 0}, {1, 4, 0}}), []int{0, 3, 1, 4, 5, 2}},
		// As texts, 10 would be ahead of 9.
		{of(12, rows{{11, 0, 0}, {11, 1, 0}, {0, 10, 0}, {0, 9, 0}}), []int{2, 3, 4, 5, 6, 7, 8, 11, 0, 1, 9, 10}},
	} {
		sorted(t, c.g, c.want)
	}
}

// TestCycleTold: cycles, by hand.
func TestCycleTold(t *testing.T) {
	for _, c := range []struct {
		g    graph.Graph
		want [][]int // each cycle, from its least arc on
	}{
		{of(1, rows{{0, 0, 0}}), [][]int{{0}}},
		{of(3, rows{{0, 1, 5}, {1, 1, 7}, {1, 2, 5}}), [][]int{{1}}},
		{of(2, rows{{0, 1, 1}, {1, 0, 1}}), [][]int{{0, 1}}},
		{of(3, rows{{1, 0, 1}, {2, 1, 1}, {0, 2, 1}}), [][]int{{0, 2, 1}}},
		// What it weighs says nothing.
		{of(3, rows{{0, 1, -1}, {1, 2, -1}, {2, 0, 2}}), [][]int{{0, 1, 2}}},
		{of(3, rows{{0, 1, -heavy}, {1, 2, -heavy}, {2, 0, heavy}}), [][]int{{0, 1, 2}}},
		{of(1, rows{{0, 0, -1}}), [][]int{{0}}},
		// One comes to it, and away from it: these arcs aren't of it.
		{of(6, rows{{0, 1, 0}, {1, 2, 0}, {2, 3, 0}, {3, 2, 0}, {3, 4, 0}, {4, 5, 0}}), [][]int{{2, 3}}},
		{of(6, rows{{5, 4, 0}, {4, 3, 0}, {3, 2, 0}, {2, 3, 0}, {2, 1, 0}, {1, 0, 0}}), [][]int{{2, 3}}},
		{of(4, rows{{3, 2, 0}, {1, 2, 0}, {2, 1, 0}, {1, 0, 0}, {3, 0, 0}}), [][]int{{1, 2}}},
		// Two of them, the one behind the other, and side by side; and with a node that both have.
		{of(4, rows{{0, 1, 0}, {1, 0, 0}, {1, 2, 0}, {2, 3, 0}, {3, 2, 0}}), [][]int{{0, 1}, {3, 4}}},
		{of(4, rows{{0, 1, 0}, {1, 0, 0}, {2, 3, 0}, {3, 2, 0}}), [][]int{{0, 1}, {2, 3}}},
		{of(3, rows{{0, 1, 0}, {1, 0, 0}, {1, 2, 0}, {2, 1, 0}}), [][]int{{0, 1}, {2, 3}}},
		// The same arc twice.
		{of(2, rows{{0, 1, 1}, {0, 1, 2}, {1, 0, 3}}), [][]int{{0, 2}, {1, 2}}},
	} {
		cyclic(t, c.g)
		l := order.Cycle(c.g)
		first := slices.Index(l, slices.Min(l))
		l = slices.Concat(l[first:], l[:first])
		if !slices.ContainsFunc(c.want, func(want []int) bool { return slices.Equal(l, want) }) {
			t.Errorf("Cycle of %v is %v, not one of %v", c.g, l, c.want)
		}
	}
}

// TestLateTold: by hand.
func TestLateTold(t *testing.T) {
	for _, c := range []struct {
		g          graph.Graph
		from, want []int64
	}{
		{graph.Graph{}, nil, nil},
		{graph.Graph{}, []int64{}, nil},
		{graph.Graph{N: 1}, []int64{7}, []int64{7}},
		{graph.Graph{N: 3}, []int64{-7, 0, 7}, []int64{-7, 0, 7}},
		// Its own number, if that is greater, or as great.
		{of(2, rows{{0, 1, 3}}), []int64{0, 2}, []int64{0, 3}},
		{of(2, rows{{0, 1, 3}}), []int64{0, 3}, []int64{0, 3}},
		{of(2, rows{{0, 1, 3}}), []int64{0, 4}, []int64{0, 4}},
		// Below nothing, all of it: noughts aren't taken for numbers.
		{of(2, rows{{0, 1, -3}}), []int64{-5, -9}, []int64{-5, -8}},
		{of(2, rows{{0, 1, -3}}), []int64{-5, -7}, []int64{-5, -7}},
		{of(2, rows{{1, 0, 0}}), []int64{-5, -5}, []int64{-5, -5}},
		// Of several arcs to it the one that makes most, which isn't the heaviest one, nor the one from the greatest number.
		{of(4, rows{{0, 3, 9}, {1, 3, 5}, {2, 3, 1}}), []int64{0, 6, 9, 0}, []int64{0, 6, 9, 11}},
		{of(2, rows{{0, 1, 4}, {0, 1, 6}, {0, 1, 5}}), []int64{1, 0}, []int64{1, 7}},
		// What a node has got goes on, not what it began with.
		{of(4, rows{{0, 1, 1}, {1, 2, 1}, {2, 3, 1}}), []int64{5, 0, 0, 0}, []int64{5, 6, 7, 8}},
		{of(4, rows{{3, 2, 1}, {2, 1, 1}, {1, 0, 1}}), []int64{0, 0, 9, 0}, []int64{11, 10, 9, 0}},
		{of(4, rows{{1, 0, 1}, {2, 1, 1}, {3, 2, 1}}), []int64{0, 0, 0, 5}, []int64{8, 7, 6, 5}},
		// More arcs, and fewer.
		{of(3, rows{{0, 2, 5}, {0, 1, 2}, {1, 2, 2}}), []int64{0, 0, 0}, []int64{0, 2, 5}},
		{of(3, rows{{0, 2, 3}, {0, 1, 2}, {1, 2, 2}}), []int64{0, 0, 0}, []int64{0, 2, 4}},
		// From the first up to the last number that may be.
		{of(2, rows{{0, 1, heavy}}), []int64{latest, -latest}, []int64{latest, latest + heavy}},
		{of(2, rows{{0, 1, -heavy}}), []int64{-latest, -latest}, []int64{-latest, -latest}},
		{of(2, rows{{0, 1, -heavy}}), []int64{latest, -latest}, []int64{latest, latest - heavy}},
	} {
		late(t, c.g, c.from, c.want)
	}
}

// TestSizes: chapter 6's errors, ahead of which stands only Late's own ErrSize.
func TestSizes(t *testing.T) {
	round := of(0, rows{{0, 0, 0}}).Arcs
	wrong := of(0, rows{{-1, 0, most}}).Arcs
	for _, l := range [][]graph.Arc{nil, round, wrong} {
		for _, n := range []int{-1, 1001, least, most} {
			refused(t, graph.Graph{N: n, Arcs: l}, noughts(graph.Graph{N: n}), api.ErrSize)
		}
		many := graph.Graph{N: 1, Arcs: slices.Concat(make([]graph.Arc, 20001), l)}
		refused(t, many, []int64{0}, api.ErrSize)
		refused(t, many, []int64{most}, api.ErrSize)
	}
	cyclic(t, graph.Graph{N: 1, Arcs: make([]graph.Arc, 20000)})
}

// refused: what all calls answer of a graph that may not be.
func refused(t *testing.T, g graph.Graph, from []int64, want api.Errno) {
	t.Helper()
	if l, ok := order.Sort(g); ok || len(l) != 0 {
		t.Errorf("Sort of %d nodes, arcs %v is %v, %t", g.N, few(g), l, ok)
	}
	if l := order.Cycle(g); len(l) != 0 {
		t.Errorf("Cycle of %d nodes, arcs %v is %v", g.N, few(g), l)
	}
	if l, e := order.Late(g, from); e != want || len(l) != 0 {
		t.Errorf("Late of %d nodes, arcs %v, with %v is %v, %d, not %d", g.N, few(g), from[:min(9, len(from))], l, e, want)
	}
}

// TestRanges: an arc that may not be, wherever it stands, and whatever cycle stands beside it.
func TestRanges(t *testing.T) {
	for _, a := range of(0, rows{{3, 0, 0}, {0, 3, 0}, {-1, 0, 0}, {0, -1, 0}, {0, 1, heavy + 1}, {0, 1, -heavy - 1}, {2, 2, most}, {2, 2, least}}).Arcs {
		for _, beside := range []rows{{{0, 1, 1}, {1, 2, 1}}, {{0, 1, 1}, {1, 0, 1}}} {
			g := of(3, beside)
			for at := range 3 {
				h := graph.Graph{N: 3, Arcs: slices.Insert(slices.Clone(g.Arcs), at, a)}
				refused(t, h, []int64{0, 0, 0}, api.ErrRange)
				refused(t, h, []int64{0, most, 0}, api.ErrRange)
				refused(t, h, []int64{0, 0}, api.ErrSize)
				refused(t, h, []int64{0, 0, most, 0}, api.ErrSize)
			}
		}
	}
	refused(t, of(0, rows{{0, 0, 0}}), nil, api.ErrRange)
}

// TestLateSize: as many numbers as nodes, no more, no fewer, whatever they are.
func TestLateSize(t *testing.T) {
	for _, g := range []graph.Graph{of(3, rows{{0, 1, 1}}), of(3, rows{{0, 0, 1}}), of(3, nil)} {
		for _, from := range [][]int64{nil, {}, {0}, {0, 0}, {0, 0, 0, 0}, {0, most}, {0, 0, 0, most}, {0, 0, 0, 0, 0, 0}} {
			if l, e := order.Late(g, from); e != api.ErrSize || len(l) != 0 {
				t.Errorf("Late of %v with %v is %v, %d", g, from, l, e)
			}
		}
	}
	if l, e := order.Late(graph.Graph{}, []int64{0}); e != api.ErrSize || len(l) != 0 {
		t.Errorf("Late of no node with a number is %v, %d", l, e)
	}
	if l, e := order.Late(graph.Graph{N: -1}, nil); e != api.ErrSize || len(l) != 0 {
		t.Errorf("Late of fewer nodes than none is %v, %d", l, e)
	}
}

// TestLateRange: each number from -Latest to Latest, whichever node's it is, and ahead of a cycle.
func TestLateRange(t *testing.T) {
	line, round := of(4, rows{{0, 1, 1}}), of(4, rows{{0, 1, 1}, {1, 0, 1}})
	for at := range 4 {
		for _, n := range []int64{latest + 1, -latest - 1, most, least} {
			from := make([]int64, 4)
			from[at] = n
			for _, g := range []graph.Graph{line, round, of(4, nil)} {
				if l, e := order.Late(g, from); e != api.ErrRange || len(l) != 0 {
					t.Errorf("Late of %v with %v is %v, %d", g, from, l, e)
				}
			}
		}
		for _, n := range []int64{latest, -latest} {
			from := make([]int64, 4)
			from[at] = n
			late(t, of(4, nil), from, from)
			if l, e := order.Late(round, from); e != api.ErrCycle || len(l) != 0 {
				t.Errorf("Late of %v with %v is %v, %d", round, from, l, e)
			}
		}
	}
}

// chain: as many nodes as may be, each with an arc to the one behind it, all of one weight.
func chain(weight int64) graph.Graph {
	g := graph.Graph{N: api.MaxNodes}
	for i := range g.N - 1 {
		g.Arcs = append(g.Arcs, graph.Arc{From: i, To: i + 1, Weight: weight})
	}
	return g
}

// counted: the numbers from 0 on.
func counted(n int) []int {
	var l []int
	for i := range n {
		l = append(l, i)
	}
	return l
}

// TestFar: as far as may be, there and back, with the greatest weights and numbers, and the least.
func TestFar(t *testing.T) {
	for _, weight := range []int64{0, 1, heavy, -heavy} {
		for _, from := range []int64{0, latest, -latest} {
			begin, want := slices.Repeat([]int64{-latest}, api.MaxNodes), make([]int64, api.MaxNodes)
			begin[0] = from
			for i := range want {
				want[i] = max(-latest, from+int64(i)*weight)
			}
			g, back := chain(weight), counted(api.MaxNodes)
			sorted(t, g, back)
			late(t, g, begin, want)
			slices.Reverse(g.Arcs)
			late(t, g, begin, want)
			slices.Reverse(begin)
			slices.Reverse(want)
			slices.Reverse(back)
			for k, a := range g.Arcs {
				g.Arcs[k].From, g.Arcs[k].To = 999-a.From, 999-a.To
			}
			sorted(t, g, back)
			late(t, g, begin, want)
		}
	}
}

// TestLongCycle: of all nodes, and of one at the end of a long way; and the arcs in another order.
func TestLongCycle(t *testing.T) {
	g := chain(heavy)
	g.Arcs = append(g.Arcs, graph.Arc{From: 999, To: 0, Weight: -heavy})
	for range 2 {
		cyclic(t, g)
		if l := order.Cycle(g); len(l) != 1000 {
			t.Errorf("the cycle of all nodes has %d arcs", len(l))
		}
		slices.Reverse(g.Arcs)
	}
	for _, on := range []int{0, 500, 999} {
		g.Arcs = append(chain(1).Arcs, graph.Arc{From: on, To: on})
		cyclic(t, g)
		if l := order.Cycle(g); !slices.Equal(l, []int{999}) {
			t.Errorf("the cycle of node %d is %v", on, l)
		}
	}
}

// TestManyArcs: as many as may be: side by side, and between all nodes, drawn.
func TestManyArcs(t *testing.T) {
	g := graph.Graph{N: 3}
	for i := range int64(api.MaxArcs / 2) {
		g.Arcs = append(g.Arcs, graph.Arc{From: 2, To: 1, Weight: i % 5000}, graph.Arc{From: 1, To: 0, Weight: i % 7000})
	}
	sorted(t, g, []int{2, 1, 0})
	late(t, g, []int64{0, 0, 1}, []int64{1 + 4999 + 6999, 5000, 1})
	r := rand.New(rand.NewSource(1))
	places := r.Perm(1000)
	drawn := graph.Graph{N: 1000}
	for len(drawn.Arcs) < api.MaxArcs {
		a := graph.Arc{From: r.Intn(1000), To: r.Intn(1000), Weight: r.Int63n(1 << 30)}
		if places[a.From] < places[a.To] {
			drawn.Arcs = append(drawn.Arcs, a)
		}
	}
	want, _ := plain(drawn)
	sorted(t, drawn, want)
	drawn.Arcs[777].From, drawn.Arcs[777].To = drawn.Arcs[778].To, drawn.Arcs[778].From
	cyclic(t, drawn)
}

// plain: P8.1's words: of the nodes that may be next, the least, as long as there is one; false, if there are nodes left.
func plain(g graph.Graph) ([]int, bool) {
	var l []int
	done := make([]bool, g.N)
	for range g.N {
		may := slices.Repeat([]bool{true}, g.N)
		for _, a := range g.Arcs {
			may[a.To] = may[a.To] && done[a.From]
		}
		for i := range may {
			if may[i] && !done[i] {
				done[i] = true
				l = append(l, i)
				break
			}
		}
	}
	return l, len(l) == g.N
}

// round: does one come from some node back to it?
func round(g graph.Graph) bool {
	for _, a := range g.Arcs {
		if g.Reach(a.To)[a.From] {
			return true
		}
	}
	return false
}

// ways: by all ways that end at a node, the greatest of what they begin with and weigh.
func ways(g graph.Graph, from []int64, at int, sum int64) int64 {
	all := from[at] + sum
	for _, a := range g.Arcs {
		if a.To == at {
			all = max(all, ways(g, from, a.From, sum+a.Weight))
		}
	}
	return all
}

// random: a graph of few nodes that may be; some have no cycle, by how they were drawn.
func random(r *rand.Rand) graph.Graph {
	g := graph.Graph{N: 1 + r.Intn(8)}
	places, flat := r.Perm(g.N), r.Intn(2) == 0
	for range r.Intn(14) {
		a := graph.Arc{From: r.Intn(g.N), To: r.Intn(g.N), Weight: r.Int63n(21) - 10}
		if !flat || places[a.From] < places[a.To] {
			g.Arcs = append(g.Arcs, a)
		}
	}
	return g
}

// TestAtRandom: small graphs, beside the words of the promises, and all ways.
func TestAtRandom(t *testing.T) {
	r := rand.New(rand.NewSource(2))
	cycles, orders := 0, 0
	for range 20000 {
		g := random(r)
		want, ok := plain(g)
		if ok == round(g) {
			t.Fatalf("%v: a cycle, and sorted: %t", g, ok)
		}
		if !ok {
			cycles++
			cyclic(t, g)
			continue
		}
		orders++
		sorted(t, g, want)
		from, most := make([]int64, g.N), make([]int64, g.N)
		for i := range from {
			from[i] = r.Int63n(31) - 20
		}
		for i := range most {
			most[i] = ways(g, from, i, 0)
		}
		late(t, g, from, most)
	}
	if cycles < 5000 || orders < 5000 {
		t.Errorf("of the draws there are %d with cycles, %d without", cycles, orders)
	}
}

// TestLeavesWhatItGets: R5, spare room included.
func TestLeavesWhatItGets(t *testing.T) {
	all := of(0, rows{{0, 1, 2}, {1, 2, 3}, {0, 2, 9}, {2, 0, 4}, {1, 1, -1}, {5, 5, 7}}).Arcs
	begin := []int64{3, 2, 1, 77, 77}
	keptArcs, keptBegin := slices.Clone(all), slices.Clone(begin)
	for arcs := range 6 {
		g := graph.Graph{N: 3, Arcs: all[:arcs]}
		order.Sort(g)
		order.Cycle(g)
		order.Late(g, begin[:3])
		order.Late(g, begin[:2])
		if !slices.Equal(all, keptArcs) || !slices.Equal(begin, keptBegin) {
			t.Fatalf("with %d arcs: the arcs are %v now, the numbers %v", arcs, all, begin)
		}
	}
}

// spoil writes over all that a list has, and all the room behind it.
func spoil[T int | int64](l []T) {
	l = l[:cap(l)]
	for i := range l {
		l[i] = 99
	}
}

// TestAnswersAreNew: R5 and R6: no answer shares anything with what was handed in, or with another answer.
func TestAnswersAreNew(t *testing.T) {
	g, loop := of(3, rows{{2, 1, 2}, {1, 0, 3}}), of(3, rows{{0, 1, 1}, {1, 0, 2}, {1, 2, 1}})
	// Of a graph without arcs the numbers are as they were handed in.
	free, begin := of(3, nil), []int64{7, 8, 9}
	keptArcs, keptLoop := slices.Clone(g.Arcs), slices.Clone(loop.Arcs)
	firstSort, _ := order.Sort(g)
	firstCycle := order.Cycle(loop)
	firstLate, _ := order.Late(free, begin)
	keptCycle := slices.Clone(firstCycle)
	for range 3 {
		l, _ := order.Sort(g)
		cycle := order.Cycle(loop)
		numbers, _ := order.Late(free, begin)
		if !slices.Equal(l, []int{2, 1, 0}) || !slices.Equal(cycle, keptCycle) || !slices.Equal(numbers, []int64{7, 8, 9}) {
			t.Fatalf("the answers are %v, %v and %v now", l, cycle, numbers)
		}
		spoil(l)
		spoil(cycle)
		spoil(numbers)
		if !slices.Equal(firstSort, []int{2, 1, 0}) || !slices.Equal(firstCycle, keptCycle) || !slices.Equal(firstLate, []int64{7, 8, 9}) {
			t.Fatalf("the first answers are %v, %v and %v now", firstSort, firstCycle, firstLate)
		}
		if !slices.Equal(g.Arcs, keptArcs) || !slices.Equal(loop.Arcs, keptLoop) || !slices.Equal(begin, []int64{7, 8, 9}) {
			t.Fatalf("what was handed in is %v, %v and %v now", g, loop, begin)
		}
	}
	begin[1] = 5
	if !slices.Equal(firstLate, []int64{7, 8, 9}) {
		t.Errorf("what Late answered hangs on what it was handed: %v", firstLate)
	}
}

// number: mostly a small one, else one of any size.
func number(r *rand.Rand) int64 {
	if r.Intn(10) > 0 {
		return r.Int63n(6) - 1
	}
	return int64(r.Uint64()) >> r.Intn(64)
}

// wild: any graph at all, and any numbers, often as many as there are nodes.
func wild(r *rand.Rand) (graph.Graph, []int64) {
	g := graph.Graph{N: int(number(r))}
	if r.Intn(2) == 0 {
		g = random(r)
	}
	for range r.Intn(4) {
		g.Arcs = append(g.Arcs, graph.Arc{From: int(number(r)), To: int(number(r)), Weight: number(r)})
	}
	numbers := r.Intn(6)
	if g.N >= 0 && g.N <= 1000 && r.Intn(4) > 0 {
		numbers = g.N
	}
	var from []int64
	for range numbers {
		from = append(from, number(r))
	}
	return g, from
}

// wanted: the error of Late, by the words of P8.2.
func wanted(g graph.Graph, from []int64) api.Errno {
	code := g.Check()
	switch {
	case len(from) != g.N:
		return api.ErrSize
	case code != api.OK:
		return code
	case slices.Max(append([]int64{0}, from...)) > latest || slices.Min(append([]int64{0}, from...)) < -latest:
		return api.ErrRange
	case round(g):
		return api.ErrCycle
	}
	return api.OK
}

// TestAnything: P1 and R6: every call answers of any graph, and the same again.
func TestAnything(t *testing.T) {
	r := rand.New(rand.NewSource(3))
	seen := map[api.Errno]int{}
	for range 40000 {
		g, from := wild(r)
		l, ok := order.Sort(g)
		cycle := order.Cycle(g)
		numbers, code := order.Late(g, from)
		want := wanted(g, from)
		seen[want]++
		if code != want || code != api.OK && len(numbers) != 0 {
			t.Errorf("Late of %v with %v is %v, %d, not %d", g, from, numbers, code, want)
		}
		may := g.Check() == api.OK
		if ok != (may && !round(g)) || !ok && len(l) != 0 || (len(cycle) > 0) != (may && round(g)) {
			t.Errorf("of %v Sort is %v, %t; Cycle is %v", g, l, ok, cycle)
		}
		again, okAgain := order.Sort(g)
		numbersAgain, codeAgain := order.Late(g, from)
		if !slices.Equal(l, again) || ok != okAgain || !slices.Equal(cycle, order.Cycle(g)) || !slices.Equal(numbers, numbersAgain) || code != codeAgain {
			t.Errorf("what is told of %v with %v changes", g, from)
		}
	}
	for _, code := range []api.Errno{api.OK, api.ErrSize, api.ErrRange, api.ErrCycle} {
		if seen[code] < 500 {
			t.Errorf("of the draws only %d ask for %d", seen[code], code)
		}
	}
}
