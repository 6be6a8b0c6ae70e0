package flow_test

import (
	"math"
	"math/rand"
	"slices"
	"testing"

	"wharfage/api"
	"wharfage/flow"
)

const (
	least, most = math.MinInt64, math.MaxInt64
	great       = 1 << 40
)

// rows are pipes: From, To and Room of each.
type rows [][3]int64

// of: a net of these, with Costs of all sorts.
func of(nodes int, l rows) flow.Net {
	n := flow.Net{N: nodes, Pipes: make([]flow.Pipe, len(l))}
	for k, p := range l {
		n.Pipes[k] = flow.Pipe{From: int(p[0]), To: int(p[1]), Room: p[2], Cost: int64(k%3-1) << 40}
	}
	return n
}

// full: as many pipes as are told, all of them of one node.
func full(pipes int) flow.Net { return flow.Net{N: 2, Pipes: make([]flow.Pipe, pipes)} }

// few: as many pipes as can be read.
func few(n flow.Net) []flow.Pipe { return n.Pipes[:min(len(n.Pipes), 12)] }

// flows: the chapter's words, node by node: is that a flow, and how much flows?
func flows(n flow.Net, l []int64, from, to int) (int64, bool) {
	if len(l) != len(n.Pipes) {
		return 0, false
	}
	into, out := map[int]int64{}, map[int]int64{}
	for k, p := range n.Pipes {
		if l[k] < 0 || l[k] > p.Room {
			return 0, false
		}
		out[p.From] += l[k]
		into[p.To] += l[k]
	}
	for i := range n.N {
		if i != from && i != to && into[i] != out[i] {
			return 0, false
		}
	}
	if into[to] < out[to] {
		return 0, false
	}
	return into[to] - out[to], true
}

// room: the Rooms of all pipes from nodes that are told to those that aren't.
func room(n flow.Net, told []bool) int64 {
	sum := int64(0)
	for _, p := range n.Pipes {
		if told[p.From] && !told[p.To] {
			sum += p.Room
		}
	}
	return sum
}

// narrow: the least that room says of any nodes with the first one, and without the last one: no more than that can flow.
func narrow(n flow.Net, from, to int) int64 {
	all := int64(most)
	for bits := range 1 << n.N {
		told := make([]bool, n.N)
		for i := range told {
			told[i] = bits>>i&1 > 0
		}
		if told[from] && !told[to] {
			all = min(all, room(n, told))
		}
	}
	return all
}

// come: to which nodes one comes by what is left, told apart from any search: by nodes between.
func come(n flow.Net, l []int64, from int) []bool {
	joined := make([][]bool, n.N)
	for i := range joined {
		joined[i] = make([]bool, n.N)
		joined[i][i] = true
	}
	for k, p := range n.Pipes {
		if l[k] < p.Room {
			joined[p.From][p.To] = true
		}
		if l[k] > 0 {
			joined[p.To][p.From] = true
		}
	}
	for by := range joined {
		for i := range joined {
			for k := range joined {
				joined[i][k] = joined[i][k] || joined[i][by] && joined[by][k]
			}
		}
	}
	return joined[from]
}

// greatest: what all calls answer of a net through which so much can flow.
func greatest(t *testing.T, n flow.Net, from, to int, want int64) []int64 {
	t.Helper()
	l, all, e := flow.Most(n, from, to)
	if e != api.OK || all != want {
		t.Errorf("Most of %d nodes, pipes %v, from %d to %d is %d, %d, not %d", n.N, few(n), from, to, all, e, want)
	}
	if much, ok := flows(n, l, from, to); !ok || much != want {
		t.Errorf("Most of %d nodes, pipes %v, from %d to %d is no flow of %d, but %d, %t", n.N, few(n), from, to, want, much, ok)
	}
	right(t, n, l, from, to)
	told := flow.Cut(n, l, from)
	if len(told) != n.N || !told[from] || told[to] || room(n, told) != want {
		t.Errorf("Cut of the greatest flow from %d to %d of %d nodes, pipes %v is %v", from, to, n.N, few(n), told)
	}
	return l
}

// right: Right, beside the chapter's words.
func right(t *testing.T, n flow.Net, l []int64, from, to int) {
	t.Helper()
	much, ok := flow.Right(n, l, from, to)
	if want, so := flows(n, l, from, to); ok != so || much != want {
		t.Errorf("Right of %d nodes, pipes %v, %v from %d to %d is %d, %t, not %d, %t", n.N, few(n), l[:min(len(l), 12)], from, to, much, ok, want, so)
	}
}

// refused: what all calls answer, if Ends has an error.
func refused(t *testing.T, n flow.Net, from, to int, want api.Errno) {
	t.Helper()
	if e := n.Ends(from, to); e != want {
		t.Errorf("Ends(%d, %d) of %d nodes, pipes %v is %d, not %d", from, to, n.N, few(n), e, want)
	}
	if l, all, e := flow.Most(n, from, to); e != want || all != 0 || len(l) != 0 {
		t.Errorf("Most of %d nodes, pipes %v, from %d to %d is %v, %d, %d, not %d", n.N, few(n), from, to, l, all, e, want)
	}
	if all, ok := flow.Right(n, make([]int64, len(n.Pipes)), from, to); ok || all != 0 {
		t.Errorf("Right of %d nodes, pipes %v, noughts from %d to %d is %d, %t", n.N, few(n), from, to, all, ok)
	}
}

func TestExamples(t *testing.T) {
	n := of(3, rows{{0, 1, 3}, {1, 2, 2}, {0, 2, 1}})
	l := greatest(t, n, 0, 2, 3)
	if !slices.Equal(l, []int64{2, 2, 1}) {
		t.Errorf("Most is %v", l)
	}
	if told := flow.Cut(n, l, 0); !slices.Equal(told, []bool{true, true, false}) {
		t.Errorf("Cut is %v", told)
	}
	if all, ok := flow.Right(n, []int64{2, 2, 1}, 0, 2); !ok || all != 3 {
		t.Errorf("Right is %d, %t", all, ok)
	}
}

func TestCheckNodes(t *testing.T) {
	for n, want := range map[int]api.Errno{
		0: api.OK, 1: api.OK, 2: api.OK, 999: api.OK, 1000: api.OK,
		1001: api.ErrSize, 1002: api.ErrSize, -1: api.ErrSize, -1000: api.ErrSize,
		1 << 32: api.ErrSize, 1<<32 + 5: api.ErrSize, -1 << 32: api.ErrSize, least: api.ErrSize, most: api.ErrSize,
	} {
		for _, l := range [][]flow.Pipe{nil, {}} {
			if e := (flow.Net{N: n, Pipes: l}).Check(); e != want {
				t.Errorf("Check of %d nodes is %d, not %d", n, e, want)
			}
		}
	}
}

func TestCheckPipes(t *testing.T) {
	for pipes, want := range map[int]api.Errno{1: api.OK, 19999: api.OK, 20000: api.OK, 20001: api.ErrSize, 30000: api.ErrSize} {
		if e := full(pipes).Check(); e != want {
			t.Errorf("Check of %d pipes is %d, not %d", pipes, e, want)
		}
	}
}

// pipes are such as may be, or not, each of a net with so many nodes.
func pipes() []struct {
	n    int
	pipe flow.Pipe
	want api.Errno
} {
	return []struct {
		n    int
		pipe flow.Pipe
		want api.Errno
	}{
		{1, flow.Pipe{}, api.OK},
		{3, flow.Pipe{From: 0, To: 2, Room: 5, Cost: 7}, api.OK},
		{3, flow.Pipe{From: 2, To: 0, Room: 5, Cost: -7}, api.OK},
		{3, flow.Pipe{From: 1, To: 1, Room: 1}, api.OK},
		{1000, flow.Pipe{From: 999, To: 999}, api.OK},
		{0, flow.Pipe{}, api.ErrRange},
		{3, flow.Pipe{From: 3}, api.ErrRange},
		{3, flow.Pipe{To: 3}, api.ErrRange},
		{3, flow.Pipe{From: -1}, api.ErrRange},
		{3, flow.Pipe{To: -1}, api.ErrRange},
		{1000, flow.Pipe{From: 1000}, api.ErrRange},
		{1000, flow.Pipe{To: 1000}, api.ErrRange},
		{3, flow.Pipe{From: 1 << 32}, api.ErrRange},
		{3, flow.Pipe{To: 1<<32 + 1}, api.ErrRange},
		{3, flow.Pipe{From: least}, api.ErrRange},
		{3, flow.Pipe{From: most}, api.ErrRange},
		{3, flow.Pipe{To: least}, api.ErrRange},
		{3, flow.Pipe{To: most}, api.ErrRange},
		{3, flow.Pipe{Room: great}, api.OK},
		{3, flow.Pipe{Room: great + 1}, api.ErrRange},
		{3, flow.Pipe{Room: -1}, api.ErrRange},
		{3, flow.Pipe{Room: -great}, api.ErrRange},
		{3, flow.Pipe{Room: least}, api.ErrRange},
		{3, flow.Pipe{Room: most}, api.ErrRange},
		{3, flow.Pipe{Cost: great}, api.OK},
		{3, flow.Pipe{Cost: -great}, api.OK},
		{3, flow.Pipe{Cost: great + 1}, api.ErrRange},
		{3, flow.Pipe{Cost: -great - 1}, api.ErrRange},
		{3, flow.Pipe{Cost: least}, api.ErrRange},
		{3, flow.Pipe{Cost: most}, api.ErrRange},
	}
}

// TestCheckPipe: each number of a pipe, up to its edges, wherever the pipe stands; and what the other calls say of it.
func TestCheckPipe(t *testing.T) {
	for _, c := range pipes() {
		for at := range 4 {
			n := flow.Net{N: c.n, Pipes: make([]flow.Pipe, 4)}
			n.Pipes[at] = c.pipe
			if e := n.Check(); e != c.want {
				t.Errorf("Check of %v is %d, not %d", n, e, c.want)
			}
			if c.want == api.OK {
				continue
			}
			refused(t, n, 0, 1, c.want)
			if l := flow.Cut(n, make([]int64, 4), 0); len(l) != 0 {
				t.Errorf("Cut of %v is %v", n, l)
			}
		}
	}
}

// TestCheckOrder: a net that is too great is so, whatever its pipes are, and whatever nodes are told.
func TestCheckOrder(t *testing.T) {
	for _, nodes := range []int{-1, 1001, least, most} {
		n := flow.Net{N: nodes, Pipes: []flow.Pipe{{From: -1}, {To: -1}, {Room: -1}, {Cost: most}}}
		if e := n.Check(); e != api.ErrSize {
			t.Errorf("Check of %v is %d", n, e)
		}
		refused(t, n, 0, 1, api.ErrSize)
		refused(t, n, 0, 0, api.ErrSize)
		refused(t, flow.Net{N: nodes}, -1, 5, api.ErrSize)
	}
	n := full(20001)
	n.Pipes[0] = flow.Pipe{From: 2, To: -1, Room: -1, Cost: least}
	refused(t, n, 0, 1, api.ErrSize)
	refused(t, n, 1, 1, api.ErrSize)
	n.Pipes = n.Pipes[:20000]
	refused(t, n, 0, 1, api.ErrRange)
	n.Pipes[0], n.Pipes[19999] = flow.Pipe{}, flow.Pipe{To: 2}
	refused(t, n, 0, 1, api.ErrRange)
	refused(t, full(20001), 0, 1, api.ErrSize)
	greatest(t, full(20000), 0, 1, 0)
}

func TestEnds(t *testing.T) {
	n := of(3, rows{{0, 1, 3}, {1, 2, 2}, {0, 2, 1}, {1, 1, 5}})
	for from := -1; from <= 3; from++ {
		for to := -1; to <= 3; to++ {
			if from == to || min(from, to) < 0 || max(from, to) > 2 {
				refused(t, n, from, to, api.ErrRange)
			} else if e := n.Ends(from, to); e != api.OK {
				t.Errorf("Ends(%d, %d) is %d", from, to, e)
			}
		}
	}
	for _, i := range []int{4, 1 << 32, 1<<32 + 1, -1 << 32, least, most} {
		refused(t, n, 0, i, api.ErrRange)
		refused(t, n, i, 0, api.ErrRange)
		refused(t, n, i, i, api.ErrRange)
	}
	for _, n := range []flow.Net{{}, {N: 1}} {
		refused(t, n, 0, 0, api.ErrRange)
		refused(t, n, 0, 1, api.ErrRange)
		refused(t, n, 1, 0, api.ErrRange)
	}
	greatest(t, flow.Net{N: 1000}, 999, 0, 0)
	refused(t, flow.Net{N: 1000}, 1000, 0, api.ErrRange)
}

// TestMostTold: by hand; where there is just one greatest flow, that one.
func TestMostTold(t *testing.T) {
	for _, c := range []struct {
		n        flow.Net
		from, to int
		all      int64
		only     []int64
	}{
		// Nothing flows: no pipe, no way, no room, only the other way.
		{flow.Net{N: 2}, 0, 1, 0, nil},
		{of(3, rows{{0, 1, 5}}), 0, 2, 0, []int64{0}},
		{of(4, rows{{0, 1, 5}, {2, 3, 5}}), 0, 3, 0, []int64{0, 0}},
		{of(2, rows{{0, 1, 0}}), 0, 1, 0, []int64{0}},
		{of(3, rows{{0, 1, 5}, {1, 2, 0}}), 0, 2, 0, []int64{0, 0}},
		{of(2, rows{{0, 1, 5}}), 1, 0, 0, []int64{0}},
		// One pipe, several side by side, one behind the other.
		{of(2, rows{{0, 1, 5}}), 0, 1, 5, []int64{5}},
		{of(2, rows{{1, 0, 5}}), 1, 0, 5, []int64{5}},
		{of(2, rows{{0, 1, 5}, {0, 1, 0}, {0, 1, 7}}), 0, 1, 12, []int64{5, 0, 7}},
		{of(4, rows{{0, 1, 5}, {1, 2, 3}, {2, 3, 4}}), 0, 3, 3, []int64{3, 3, 3}},
		{of(4, rows{{2, 0, 4}, {3, 1, 5}, {1, 2, 3}}), 3, 0, 3, []int64{3, 3, 3}},
		// Not out of the last one, not into the first one.
		{of(2, rows{{0, 1, 5}, {1, 0, 3}}), 1, 0, 3, nil},
		{of(3, rows{{0, 1, 5}, {1, 0, 9}, {1, 2, 4}, {2, 1, 9}}), 0, 2, 4, nil},
		// A pipe from a node to itself.
		{of(2, rows{{0, 0, 9}, {1, 1, 9}, {0, 1, 2}}), 0, 1, 2, nil},
		// Part of it that is sent on one way must come back: 0-1-2-3 isn't it.
		{of(4, rows{{0, 1, 1}, {1, 2, 1}, {2, 3, 1}, {0, 2, 1}, {1, 3, 1}}), 0, 3, 2, []int64{1, 0, 1, 1, 1}},
		{of(6, rows{{0, 1, 1}, {1, 4, 1}, {4, 5, 1}, {0, 2, 1}, {2, 4, 1}, {1, 3, 1}, {3, 5, 1}}), 0, 5, 2, []int64{1, 0, 1, 1, 1, 1, 1}},
		// A side way, of which nothing comes on.
		{of(5, rows{{0, 1, 9}, {1, 2, 9}, {2, 1, 9}, {1, 3, 9}, {0, 4, 2}}), 0, 4, 2, nil},
		// The greatest numbers, beside the least ones.
		{of(2, rows{{0, 1, great}, {0, 1, 1}, {0, 1, great}}), 0, 1, 2*great + 1, []int64{great, 1, great}},
		{of(4, rows{{0, 1, great}, {0, 2, great}, {1, 2, 1}, {1, 3, great}, {2, 3, great}}), 0, 3, 2 * great, []int64{great, great, 0, great, great}},
		{of(3, rows{{0, 1, great}, {1, 2, great - 1}}), 0, 2, great - 1, []int64{great - 1, great - 1}},
	} {
		l := greatest(t, c.n, c.from, c.to, c.all)
		if c.only != nil && !slices.Equal(l, c.only) {
			t.Errorf("Most of %v from %d to %d is %v, not %v", c.n, c.from, c.to, l, c.only)
		}
	}
}

// TestRightTold: by hand, and beside the words.
func TestRightTold(t *testing.T) {
	line := of(3, rows{{0, 1, 3}, {1, 2, 2}})
	round := of(4, rows{{0, 1, 5}, {1, 2, 5}, {2, 1, 5}, {1, 3, 5}, {3, 0, 5}, {1, 1, 5}, {3, 3, 5}})
	for _, c := range []struct {
		n        flow.Net
		l        []int64
		from, to int
		much     int64
		ok       bool
	}{
		{flow.Net{N: 2}, nil, 0, 1, 0, true},
		{flow.Net{N: 2}, []int64{}, 1, 0, 0, true},
		{flow.Net{N: 2}, []int64{0}, 1, 0, 0, false},
		{line, []int64{0, 0}, 0, 2, 0, true},
		{line, []int64{1, 1}, 0, 2, 1, true}, // Not the greatest.
		{line, []int64{2, 2}, 0, 2, 2, true},
		{line, []int64{3, 3}, 0, 2, 0, false},   // More than there is room.
		{line, []int64{3, 2}, 0, 2, 0, false},   // Some stays between.
		{line, []int64{1, 2}, 0, 2, 0, false},   // Some comes from nowhere.
		{line, []int64{-1, -1}, 0, 2, 0, false}, // Less than none.
		{line, []int64{1, 1}, 2, 0, 0, false},   // Out of the last one.
		{line, []int64{0, 0}, 2, 0, 0, true},
		{line, []int64{3, 2}, 0, 1, 0, false},
		{line, []int64{3, 0}, 0, 1, 3, true},
		{line, []int64{1, 1}, 0, 1, 0, false},
		{line, []int64{0, 1}, 1, 2, 1, true},
		{line, []int64{1, 1}, 1, 2, 0, false}, // The first one isn't 0: that keeps what it has.
		{line, nil, 0, 2, 0, false},
		{line, []int64{1}, 0, 2, 0, false},
		{line, []int64{1, 1, 0}, 0, 2, 0, false},
		{line, []int64{most, most}, 0, 2, 0, false},
		{line, []int64{least, least}, 0, 2, 0, false},
		{line, []int64{1 << 32, 1 << 32}, 0, 2, 0, false},
		// Round and round, through the ends too: that flows, but doesn't count.
		{round, []int64{2, 0, 0, 2, 0, 0, 0}, 0, 3, 2, true},
		{round, []int64{2, 4, 4, 2, 0, 5, 5}, 0, 3, 2, true},
		{round, []int64{5, 0, 0, 5, 3, 0, 0}, 0, 3, 2, true},
		{round, []int64{5, 0, 0, 5, 5, 0, 0}, 0, 3, 0, true},
		{round, []int64{4, 0, 0, 4, 5, 0, 0}, 0, 3, 0, false},
		{round, []int64{4, 0, 0, 4, 5, 0, 0}, 3, 0, 1, true},
		{round, []int64{2, 4, 3, 2, 0, 5, 5}, 0, 3, 0, false},
		{round, []int64{2, 0, 0, 2, 0, 6, 0}, 0, 3, 0, false},
		{round, []int64{2, 0, 0, 2, 0, -1, 0}, 0, 3, 0, false},
	} {
		if much, ok := flow.Right(c.n, c.l, c.from, c.to); much != c.much || ok != c.ok {
			t.Errorf("Right of %v, %v from %d to %d is %d, %t, not %d, %t", c.n, c.l, c.from, c.to, much, ok, c.much, c.ok)
		}
		right(t, c.n, c.l, c.from, c.to)
	}
}

// TestRightGoesRound: numbers that added, in 64 bits, would be as they must.
func TestRightGoesRound(t *testing.T) {
	two := of(3, rows{{0, 1, 9}, {0, 1, 9}, {1, 2, 9}})
	for _, l := range [][]int64{{least, least, 0}, {most, most, -2}, {most, least, -1}, {least, least + 4, 4}} {
		if much, ok := flow.Right(two, l, 0, 2); ok || much != 0 {
			t.Errorf("Right of %v is %d, %t", l, much, ok)
		}
	}
}

// TestCutTold: by hand, each number as it is.
func TestCutTold(t *testing.T) {
	n := of(5, rows{{0, 1, 3}, {1, 2, 0}, {3, 2, 4}, {2, 2, 1}})
	for _, c := range []struct {
		l    []int64
		from int
		want []int
	}{
		{[]int64{0, 0, 0, 0}, 0, []int{0, 1}},
		{[]int64{2, 0, 0, 0}, 0, []int{0, 1}},
		{[]int64{3, 0, 0, 0}, 0, []int{0}},
		{[]int64{3, 0, 0, 0}, 1, []int{0, 1}},
		{[]int64{0, 0, 0, 0}, 1, []int{1}},
		{[]int64{1, 0, 0, 0}, 1, []int{0, 1}},
		{[]int64{0, 0, 0, 0}, 2, []int{2}},
		{[]int64{0, 0, 1, 0}, 2, []int{2, 3}},
		{[]int64{0, 0, 4, 0}, 2, []int{2, 3}},
		{[]int64{0, 0, 4, 0}, 3, []int{3}},
		{[]int64{0, 0, 0, 0}, 3, []int{2, 3}},
		{[]int64{0, 0, 0, 0}, 4, []int{4}},
		{[]int64{9, 9, 9, 9}, 4, []int{4}},
		// Below nothing there is room, where Room is none, too; above Room there is what goes back.
		{[]int64{-1, -1, 0, 0}, 0, []int{0, 1, 2}},
		{[]int64{-1, -1, -1, 0}, 1, []int{1, 2}},
		{[]int64{4, 1, 5, 0}, 2, []int{0, 1, 2, 3}},
		{[]int64{4, 1, 5, 0}, 0, []int{0}},
		{[]int64{least, least, least, least}, 0, []int{0, 1, 2}},
		{[]int64{least, least, least, least}, 3, []int{2, 3}},
		{[]int64{most, most, most, most}, 2, []int{0, 1, 2, 3}},
		{[]int64{most, most, most, most}, 0, []int{0}},
		{[]int64{1 << 32, 1 << 32, -1 << 32, -1 << 32}, 3, []int{0, 1, 2, 3}},
	} {
		want := make([]bool, n.N)
		for _, i := range c.want {
			want[i] = true
		}
		if told := flow.Cut(n, c.l, c.from); !slices.Equal(told, want) {
			t.Errorf("Cut of %v, %v from %d is %v, not %v", n, c.l, c.from, told, want)
		}
	}
	if told := flow.Cut(flow.Net{N: 1}, nil, 0); !slices.Equal(told, []bool{true}) {
		t.Errorf("Cut of a node alone is %v", told)
	}
}

// TestCutNone: no such node, more or fewer numbers than pipes; a net that may not be stands in TestCheckPipe.
func TestCutNone(t *testing.T) {
	n := of(3, rows{{0, 1, 3}, {1, 2, 2}})
	for _, from := range []int{-1, 3, 4, 1 << 32, least, most} {
		if told := flow.Cut(n, []int64{0, 0}, from); len(told) != 0 {
			t.Errorf("Cut from %d is %v", from, told)
		}
	}
	for _, l := range [][]int64{nil, {}, {0}, {0, 0, 0}, {0, 0, 0, 0}} {
		if told := flow.Cut(n, l, 0); len(told) != 0 {
			t.Errorf("Cut of two pipes with %v is %v", l, told)
		}
	}
	if told := flow.Cut(flow.Net{}, nil, 0); len(told) != 0 {
		t.Errorf("Cut of no nodes is %v", told)
	}
	for _, n := range []flow.Net{{N: -1}, {N: 1001}, {N: least}, {N: most}} {
		if told := flow.Cut(n, nil, 0); len(told) != 0 {
			t.Errorf("Cut of %d nodes is %v", n.N, told)
		}
	}
	if told := flow.Cut(full(20001), make([]int64, 20001), 0); len(told) != 0 {
		t.Errorf("Cut of 20001 pipes is %v", told)
	}
}

// random: a net of few nodes that may be; Rooms small, or of all sizes.
func random(r *rand.Rand, nodes, pipes int) flow.Net {
	n := flow.Net{N: 2 + r.Intn(nodes-1)}
	wide := r.Intn(3) == 0
	for range r.Intn(pipes + 1) {
		p := flow.Pipe{From: r.Intn(n.N), To: r.Intn(n.N), Room: r.Int63n(6), Cost: r.Int63n(2*great+1) - great}
		if wide {
			p.Room = r.Int63n(1<<r.Intn(41) + 1)
		}
		n.Pipes = append(n.Pipes, p)
	}
	return n
}

// ends: two nodes of a net.
func ends(r *rand.Rand, n flow.Net) (int, int) {
	l := r.Perm(n.N)
	return l[0], l[1]
}

// TestAllFlows: of little nets every list of numbers, some of them no flows: Right beside the words, Most beside the greatest.
func TestAllFlows(t *testing.T) {
	r := rand.New(rand.NewSource(1))
	for range 150 {
		n := random(r, 4, 5)
		for k := range n.Pipes {
			n.Pipes[k].Room %= 3
		}
		from, to := ends(r, n)
		all := int64(0)
		l := slices.Repeat([]int64{-1}, len(n.Pipes))
		for more := true; more; {
			right(t, n, l, from, to)
			if much, ok := flows(n, l, from, to); ok {
				all = max(all, much)
			}
			more = false
			for k, p := range n.Pipes {
				if l[k] <= p.Room {
					l[k]++
					more = true
					break
				}
				l[k] = -1
			}
		}
		greatest(t, n, from, to, all)
	}
}

// TestMostAtRandom: no more can flow than is narrow, and so much does.
func TestMostAtRandom(t *testing.T) {
	r := rand.New(rand.NewSource(2))
	flowing := 0
	for range 8000 {
		n := random(r, 8, 24)
		from, to := ends(r, n)
		want := narrow(n, from, to)
		if want > 0 {
			flowing++
		}
		l := greatest(t, n, from, to, want)
		if told := flow.Cut(n, l, from); !slices.Equal(told, come(n, l, from)) {
			t.Errorf("Cut of %v, %v from %d is %v", n, l, from, told)
		}
	}
	if flowing < 4000 {
		t.Errorf("through %d nets alone something flows", flowing)
	}
}

// near: a number, mostly near a pipe's edges, else of any size.
func near(r *rand.Rand, room int64) int64 {
	switch r.Intn(6) {
	case 0:
		return int64(r.Uint64())
	case 1:
		return room + r.Int63n(3) - 1
	case 2:
		return []int64{least, most, -great, great}[r.Intn(4)]
	}
	return r.Int63n(3) - 1
}

// TestCutAtRandom: beside what is left, of any numbers.
func TestCutAtRandom(t *testing.T) {
	r := rand.New(rand.NewSource(3))
	for range 10000 {
		n := random(r, 9, 20)
		l := make([]int64, len(n.Pipes))
		for k, p := range n.Pipes {
			l[k] = near(r, p.Room)
		}
		for from := range n.N {
			if told := flow.Cut(n, l, from); !slices.Equal(told, come(n, l, from)) {
				t.Errorf("Cut of %v, %v from %d is %v, not %v", n, l, from, told, come(n, l, from))
			}
		}
		from, to := ends(r, n)
		right(t, n, l, from, to)
	}
}

// TestRightAtRandom: flows made of rounds and ways, as they are, and with one number more or less.
func TestRightAtRandom(t *testing.T) {
	r := rand.New(rand.NewSource(4))
	good := 0
	for range 10000 {
		n := random(r, 7, 20)
		from, to := ends(r, n)
		other, another := ends(r, n)
		l, _, _ := flow.Most(n, from, to)
		some, _, _ := flow.Most(n, other, another)
		for k := range l {
			l[k] = min(l[k]/2+some[k]/2, n.Pipes[k].Room)
		}
		if much, ok := flows(n, l, from, to); ok && much > 0 {
			good++
		}
		right(t, n, l, from, to)
		right(t, n, l, other, another)
		right(t, n, l, to, from)
		if len(l) > 0 {
			l[r.Intn(len(l))] += r.Int63n(3) - 1
			right(t, n, l, from, to)
		}
	}
	if good < 1000 {
		t.Errorf("of the draws only %d flow", good)
	}
}

// TestGreatSums: as much as can be: that much, and not less, by all pipes that may be.
func TestGreatSums(t *testing.T) {
	side := flow.Net{N: 2, Pipes: slices.Repeat([]flow.Pipe{{From: 1, To: 0, Room: great, Cost: great}}, 20000)}
	greatest(t, side, 1, 0, 20000*great)
	greatest(t, side, 0, 1, 0)
	line := flow.Net{N: 1000}
	for i := range 999 {
		for k := range int64(20) {
			line.Pipes = append(line.Pipes, flow.Pipe{From: i, To: i + 1, Room: great - k})
		}
	}
	greatest(t, line, 0, 999, 20*great-190)
	greatest(t, line, 999, 0, 0)
	slices.Reverse(line.Pipes)
	greatest(t, line, 0, 999, 20*great-190)
	line.Pipes = append(line.Pipes, flow.Pipe{From: 0, To: 999, Room: 1})
	greatest(t, line, 0, 999, 20*great-189)
	line.Pipes[10000].Room = 0
	over := line.Pipes[10000]
	cut := int64(1)
	for _, p := range line.Pipes {
		if p.From == over.From && p.To == over.To {
			cut += p.Room
		}
	}
	greatest(t, line, 0, 999, cut)
}

// known: Most of a great net, through which something flows, where only the Cut tells that no more can.
func known(t *testing.T, n flow.Net, from, to int) {
	t.Helper()
	l, all, _ := flow.Most(n, from, to)
	told := flow.Cut(n, l, from)
	if len(told) != n.N || told[to] || all == 0 {
		t.Fatalf("of %d nodes, pipes %v: %d, Cut %v", n.N, few(n), all, told)
	}
	greatest(t, n, from, to, room(n, told))
}

// TestGreatNets: as many nodes and pipes as may be, drawn: all over, and row by row.
func TestGreatNets(t *testing.T) {
	r := rand.New(rand.NewSource(5))
	for _, rooms := range []func() int64{
		func() int64 { return 1 },
		func() int64 { return r.Int63n(great + 1) },
		func() int64 { return 1 << r.Intn(41) },
	} {
		all := flow.Net{N: 1000}
		for len(all.Pipes) < 20000 {
			all.Pipes = append(all.Pipes, flow.Pipe{From: r.Intn(1000), To: r.Intn(1000), Room: rooms()})
		}
		known(t, all, 0, 999)
		known(t, all, 600, 300)
		for _, wide := range []int{2, 10, 50, 200} {
			row := flow.Net{N: 1000}
			for len(row.Pipes) < 20000 {
				from := r.Intn(1000)
				to := (from/wide+1)*wide + r.Intn(wide)
				if to < 1000 {
					row.Pipes = append(row.Pipes, flow.Pipe{From: from, To: to, Room: rooms()})
				}
			}
			for i := range wide {
				row.Pipes[i] = flow.Pipe{From: 0, To: i, Room: great}
				row.Pipes[wide+i] = flow.Pipe{From: 999 - i, To: 999, Room: great}
			}
			known(t, row, 0, 999)
		}
	}
}

// TestSlowNets: nets in which a search that takes any way, the shortest ones even, goes on for very long.
func TestSlowNets(t *testing.T) {
	zigzag := flow.Net{N: 1000}
	for i := 0; i < 999; i += 3 {
		zigzag.Pipes = append(zigzag.Pipes,
			flow.Pipe{From: i, To: i + 1, Room: great}, flow.Pipe{From: i, To: i + 2, Room: great}, flow.Pipe{From: i + 1, To: i + 2, Room: 1},
			flow.Pipe{From: i + 1, To: i + 3, Room: great}, flow.Pipe{From: i + 2, To: i + 3, Room: great})
	}
	greatest(t, zigzag, 0, 999, 2*great)
	greatest(t, zigzag, 500, 999, great)
	slices.Reverse(zigzag.Pipes)
	greatest(t, zigzag, 0, 999, 2*great)
	// All but one of what goes through very many ways comes back.
	back := flow.Net{N: 1000}
	for i := range 979 {
		for k := range 20 {
			back.Pipes = append(back.Pipes, flow.Pipe{From: i, To: i + k + 1, Room: great - int64(i*k)})
		}
	}
	back.Pipes = append(back.Pipes, flow.Pipe{From: 997, To: 999, Room: 1})
	known(t, back, 0, 997)
	greatest(t, back, 0, 999, 1)
	// Two lines, one by which all comes, one by which all goes: the shortest way over leads ever farther along both.
	for _, inward := range []bool{false, true} {
		n := flow.Net{N: 1000}
		for i := range 249 {
			n.Pipes = append(n.Pipes, flow.Pipe{From: i, To: i + 1, Room: great}, flow.Pipe{From: 998 - i, To: 999 - i, Room: great})
		}
		for i := range 250 {
			for k := range 70 {
				over := flow.Pipe{From: i, To: 999 - (i+k)%250, Room: int64(1 + (i*7+k*13)%5)}
				if inward {
					over.From, over.To = 249-i, 750+(i+k)%250
				}
				n.Pipes = append(n.Pipes, over)
			}
		}
		known(t, n, 0, 999)
	}
}

// TestLeavesWhatItGets: R5, spare room included.
func TestLeavesWhatItGets(t *testing.T) {
	all := of(0, rows{{0, 1, 2}, {1, 2, 3}, {0, 2, 9}, {2, 0, 4}, {1, 1, 1}, {5, 5, -7}}).Pipes
	numbers := []int64{1, 1, 2, 0, 1, 77, 77}
	keptPipes, keptNumbers := slices.Clone(all), slices.Clone(numbers)
	for pipes := range 7 {
		n := flow.Net{N: 3, Pipes: all[:pipes]}
		n.Check()
		n.Ends(0, 2)
		flow.Most(n, 0, 2)
		flow.Most(n, 2, 0)
		for from := range 3 {
			flow.Cut(n, numbers[:pipes], from)
			flow.Right(n, numbers[:pipes], from, 2)
			flow.Right(n, numbers[:5], from, 0)
		}
		if !slices.Equal(all, keptPipes) || !slices.Equal(numbers, keptNumbers) {
			t.Fatalf("with %d pipes: the pipes are %v now, the numbers %v", pipes, all, numbers)
		}
	}
}

// TestAnswersAreNew: R5 and R6: no answer shares anything with what was handed in, or with another answer.
func TestAnswersAreNew(t *testing.T) {
	n := of(3, rows{{0, 1, 3}, {1, 2, 2}, {0, 2, 1}})
	kept := slices.Clone(n.Pipes)
	wantFlow, wantCut := []int64{2, 2, 1}, []bool{true, true, false}
	firstFlow, _, _ := flow.Most(n, 0, 2)
	firstCut := flow.Cut(n, firstFlow, 0)
	for range 3 {
		l, _, _ := flow.Most(n, 0, 2)
		told := flow.Cut(n, l, 0)
		if !slices.Equal(l, wantFlow) || !slices.Equal(told, wantCut) {
			t.Fatalf("the answers are %v and %v now", l, told)
		}
		l, told = l[:cap(l)], told[:cap(told)]
		for i := range l {
			l[i] = 99
		}
		for i := range told {
			told[i] = !told[i]
		}
		if !slices.Equal(firstFlow, wantFlow) || !slices.Equal(firstCut, wantCut) || !slices.Equal(n.Pipes, kept) {
			t.Fatalf("the first answers are %v and %v now, the pipes %v", firstFlow, firstCut, n.Pipes)
		}
	}
	n.Pipes[0].Room = 0
	if !slices.Equal(firstFlow, wantFlow) || !slices.Equal(firstCut, wantCut) {
		t.Errorf("what was answered hangs on the pipes: %v, %v", firstFlow, firstCut)
	}
}

// number: mostly a small one, else one of any size.
func number(r *rand.Rand) int64 {
	if r.Intn(12) > 0 {
		return r.Int63n(6)
	}
	return int64(r.Uint64()) >> r.Intn(64)
}

// wild: any net at all, and any numbers, often as many as there are pipes.
func wild(r *rand.Rand) (flow.Net, []int64) {
	n := flow.Net{N: int(number(r))}
	if r.Intn(2) == 0 {
		n = random(r, 6, 8)
	}
	for range r.Intn(3) {
		n.Pipes = append(n.Pipes, flow.Pipe{From: int(number(r)), To: int(number(r)), Room: number(r), Cost: number(r)})
	}
	l := make([]int64, len(n.Pipes))
	if r.Intn(5) == 0 {
		l = make([]int64, r.Intn(9))
	}
	for k := range l {
		l[k] = number(r)
	}
	return n, l
}

// checked: the error of Check, by the words of P9.1.
func checked(n flow.Net) api.Errno {
	if n.N < 0 || n.N > 1000 || len(n.Pipes) > 20000 {
		return api.ErrSize
	}
	for _, p := range n.Pipes {
		if min(p.From, p.To) < 0 || max(p.From, p.To) > n.N-1 || p.Room < 0 || max(p.Room, p.Cost) > great || p.Cost < -great {
			return api.ErrRange
		}
	}
	return api.OK
}

// TestAnything: P1 and R6: every call answers of any net, and the same again.
func TestAnything(t *testing.T) {
	r := rand.New(rand.NewSource(6))
	seen := map[api.Errno]int{}
	for range 40000 {
		n, l := wild(r)
		from, to := int(number(r)), int(number(r))
		want := checked(n)
		if e := n.Check(); e != want {
			t.Errorf("Check of %v is %d, not %d", n, e, want)
		}
		told := flow.Cut(n, l, from)
		if cut := want == api.OK && len(l) == len(n.Pipes) && from >= 0 && from < n.N; cut != (len(told) > 0) {
			t.Errorf("Cut of %v, %v from %d is %v", n, l, from, told)
		}
		if want == api.OK && (min(from, to) < 0 || max(from, to) >= n.N || from == to) {
			want = api.ErrRange
		}
		seen[want]++
		much, ok := flow.Right(n, l, from, to)
		if want != api.OK {
			refused(t, n, from, to, want)
			if ok || much != 0 {
				t.Errorf("Right of %v, %v from %d to %d is %d, %t", n, l, from, to, much, ok)
			}
			continue
		}
		right(t, n, l, from, to)
		first, all, _ := flow.Most(n, from, to)
		again, allAgain, _ := flow.Most(n, from, to)
		if !slices.Equal(first, again) || all != allAgain || !slices.Equal(told, flow.Cut(n, l, from)) {
			t.Errorf("what is told of %v, %v from %d to %d changes", n, l, from, to)
		}
		greatest(t, n, from, to, all)
	}
	for _, code := range []api.Errno{api.OK, api.ErrSize, api.ErrRange} {
		if seen[code] < 500 {
			t.Errorf("of the draws only %d ask for %d", seen[code], code)
		}
	}
}
