package least_test

import (
	"math"
	"math/big"
	"math/rand"
	"slices"
	"testing"

	"wharfage/api"
	"wharfage/flow"
	"wharfage/least"
)

const (
	lowest, most = math.MinInt64, math.MaxInt64
	great        = 1 << 40 // The greatest Room.
	dear         = 1 << 32 // The greatest Cost.
	much         = 10000   // The most that may be wanted.
	high         = 1 << 50 // The farthest that a node may lie from 0.
)

// rows are pipes: From, To, Room and Cost of each.
type rows [][4]int64

// of: a net of these.
func of(nodes int, l rows) flow.Net {
	n := flow.Net{N: nodes, Pipes: make([]flow.Pipe, len(l))}
	for k, p := range l {
		n.Pipes[k] = flow.Pipe{From: int(p[0]), To: int(p[1]), Room: p[2], Cost: p[3]}
	}
	return n
}

// few: as many pipes as can be read.
func few(n flow.Net) []flow.Pipe { return n.Pipes[:min(len(n.Pipes), 12)] }

// flows: chapter 9's words, node by node: is that a flow of so much?
func flows(n flow.Net, l []int64, from, to int, want int64) bool {
	if len(l) != len(n.Pipes) {
		return false
	}
	into, out := map[int]int64{}, map[int]int64{}
	for k, p := range n.Pipes {
		if l[k] < 0 || l[k] > p.Room {
			return false
		}
		out[p.From] += l[k]
		into[p.To] += l[k]
	}
	for i := range n.N {
		if i != from && i != to && into[i] != out[i] {
			return false
		}
	}
	return want >= 0 && into[to]-out[to] == want
}

// costs: what such numbers cost, however much that is.
func costs(n flow.Net, l []int64) *big.Int {
	sum := new(big.Int)
	for k, p := range n.Pipes {
		sum.Add(sum, new(big.Int).Mul(big.NewInt(l[k]), big.NewInt(p.Cost)))
	}
	return sum
}

// checked: the error that comes ahead of ErrNone, by the words of P9.1 and P10.1.
func checked(n flow.Net, from, to int, want int64) api.Errno {
	if n.N < 0 || n.N > 1000 || len(n.Pipes) > 20000 {
		return api.ErrSize
	}
	for _, p := range n.Pipes {
		if min(p.From, p.To) < 0 || max(p.From, p.To) > n.N-1 || p.Room < 0 || p.Room > great || p.Cost < 0 || p.Cost > dear {
			return api.ErrRange
		}
	}
	if min(from, to) < 0 || max(from, to) > n.N-1 || from == to || want < 0 || want > much {
		return api.ErrRange
	}
	return api.OK
}

// rightly: the words of P10.2.
func rightly(n flow.Net, from, to int, want int64, r least.Result) bool {
	if checked(n, from, to, want) != api.OK || !flows(n, r.Flow, from, to, want) || len(r.High) != n.N {
		return false
	}
	for _, h := range r.High {
		if h < -high || h > high {
			return false
		}
	}
	for k, p := range n.Pipes {
		steep := p.Cost + r.High[p.From] - r.High[p.To]
		if r.Flow[k] < p.Room && steep < 0 || r.Flow[k] > 0 && steep > 0 {
			return false
		}
	}
	return costs(n, r.Flow).Cmp(big.NewInt(r.Cost)) == 0
}

// right: Right, beside the words.
func right(t *testing.T, n flow.Net, from, to int, want int64, r least.Result) {
	t.Helper()
	if ok, so := least.Right(n, from, to, want, r), rightly(n, from, to, want, r); ok != so {
		t.Errorf("Right of %d nodes, pipes %v, %d from %d to %d, %v is %t", n.N, few(n), want, from, to, r, ok)
	}
}

// found: what Least answers where so much can flow; it is held against the words.
func found(t *testing.T, n flow.Net, from, to int, want int64) least.Result {
	t.Helper()
	r, e := least.Least(n, from, to, want)
	if e != api.OK {
		t.Fatalf("Least of %d nodes, pipes %v, %d from %d to %d is %v, %d", n.N, few(n), want, from, to, r, e)
	}
	if !rightly(n, from, to, want, r) || !least.Right(n, from, to, want, r) {
		t.Fatalf("Least of %d nodes, pipes %v, %d from %d to %d isn't right: it costs %d", n.N, few(n), want, from, to, r.Cost)
	}
	if r.High[from] != 0 || slices.Max(r.High) != r.High[to] {
		t.Fatalf("Least of %d nodes, pipes %v, %d from %d to %d lies at %d, up to %d, the highest one at %d", n.N, few(n), want, from, to, r.High[from], r.High[to], slices.Max(r.High))
	}
	return r
}

// refused: what both calls answer, if there is an error.
func refused(t *testing.T, n flow.Net, from, to int, want int64, code api.Errno) {
	t.Helper()
	r, e := least.Least(n, from, to, want)
	if e != code || r.Cost != 0 || len(r.Flow) != 0 || len(r.High) != 0 {
		t.Errorf("Least of %d nodes, pipes %v, %d from %d to %d is %v, %d, not %d", n.N, few(n), want, from, to, r, e, code)
	}
	r.Flow = make([]int64, len(n.Pipes))
	r.High = make([]int64, max(0, min(n.N, 2000)))
	if least.Right(n, from, to, want, r) {
		t.Errorf("Right of %d nodes, pipes %v, %d from %d to %d, noughts is true", n.N, few(n), want, from, to)
	}
}

// unit: what so much costs at least, one by one along ways that are cheapest, told apart from any heights; false: so much can't flow.
func unit(n flow.Net, from, to int, want int64) (int64, bool) {
	l, sum := make([]int64, len(n.Pipes)), int64(0)
	for range want {
		far, by := make([]int64, n.N), make([]int, n.N)
		for i := range far {
			far[i] = most / 2
		}
		far[from] = 0
		for range n.N {
			for k, p := range n.Pipes {
				if l[k] < p.Room && far[p.From] < most/2 && far[p.From]+p.Cost < far[p.To] {
					far[p.To], by[p.To] = far[p.From]+p.Cost, k
				}
				if l[k] > 0 && far[p.To] < most/2 && far[p.To]-p.Cost < far[p.From] {
					far[p.From], by[p.From] = far[p.To]-p.Cost, ^k
				}
			}
		}
		if far[to] == most/2 {
			return 0, false
		}
		sum += far[to]
		for at := to; at != from; {
			if k := by[at]; k >= 0 {
				l[k]++
				at = n.Pipes[k].From
			} else {
				l[^k]--
				at = n.Pipes[^k].To
			}
		}
	}
	return sum, true
}

// lists: all lists of so many numbers from low on up to each one's edge.
func lists(low int64, edges []int64, tell func([]int64)) {
	l := slices.Repeat([]int64{low}, len(edges))
	for more := true; more; {
		tell(l)
		more = false
		for k, edge := range edges {
			if l[k] < edge {
				l[k]++
				more = true
				break
			}
			l[k] = low
		}
	}
}

func TestExamples(t *testing.T) {
	n := of(2, rows{{0, 1, 2, 1}, {0, 1, 2, 5}})
	r := found(t, n, 0, 1, 3)
	if !slices.Equal(r.Flow, []int64{2, 1}) || r.Cost != 7 || !slices.Equal(r.High, []int64{0, 5}) {
		t.Errorf("Least is %v", r)
	}
	if !least.Right(n, 0, 1, 3, least.Result{Flow: []int64{2, 1}, Cost: 7, High: []int64{0, 5}}) {
		t.Error("Right is false")
	}
}

// TestLeastTold: by hand; where there is just one cheapest flow, or there are no other heights, these.
func TestLeastTold(t *testing.T) {
	for _, c := range []struct {
		n              flow.Net
		from, to       int
		want, cost     int64
		flow, highness []int64
	}{
		// Nothing is wanted: nothing need be there.
		{flow.Net{N: 2}, 0, 1, 0, 0, nil, nil},
		{of(3, rows{{0, 1, 5, 5}, {1, 2, 5, 0}}), 0, 2, 0, 0, []int64{0, 0}, nil},
		{of(3, rows{{0, 1, 5, 0}, {1, 2, 5, 0}}), 2, 0, 0, 0, nil, nil},
		// One pipe, with more room, and with no more.
		{of(2, rows{{0, 1, 5, 3}}), 0, 1, 4, 12, []int64{4}, []int64{0, 3}},
		{of(2, rows{{0, 1, 5, 3}}), 0, 1, 5, 15, []int64{5}, nil},
		{of(2, rows{{1, 0, 5, 3}}), 1, 0, 1, 3, []int64{1}, []int64{3, 0}},
		{of(2, rows{{0, 1, 5, 0}}), 0, 1, 5, 0, []int64{5}, nil},
		// Several side by side: the cheap ones first, the one without room never.
		{of(2, rows{{0, 1, 2, 7}, {0, 1, 2, 3}, {0, 1, 0, 1}, {0, 1, 2, 5}}), 0, 1, 5, 23, []int64{1, 2, 0, 2}, []int64{0, 7}},
		{of(2, rows{{0, 1, 2, 7}, {0, 1, 2, 3}, {0, 1, 0, 1}, {0, 1, 2, 5}}), 0, 1, 3, 11, []int64{0, 2, 0, 1}, []int64{0, 5}},
		// One behind the other, with a side way on which nothing flows; it isn't above the last one.
		{of(4, rows{{0, 1, 9, 2}, {1, 2, 9, 3}, {1, 3, 9, 100}}), 0, 2, 9, 45, []int64{9, 9, 0}, nil},
		{of(4, rows{{0, 1, 9, 2}, {1, 2, 9, 3}, {1, 3, 9, 100}}), 0, 2, 8, 40, []int64{8, 8, 0}, []int64{0, 2, 5, 5}},
		// A node to which nothing leads.
		{of(3, rows{{0, 1, 9, 2}, {2, 1, 9, 0}}), 0, 1, 4, 8, []int64{4, 0}, []int64{0, 2, 2}},
		// The cheapest way alone isn't part of it: 0-1-2-3 must come back for two.
		{of(4, rows{{0, 1, 1, 1}, {1, 2, 1, 1}, {2, 3, 1, 1}, {0, 2, 1, 9}, {1, 3, 1, 9}}), 0, 3, 1, 3, []int64{1, 1, 1, 0, 0}, nil},
		{of(4, rows{{0, 1, 1, 1}, {1, 2, 1, 1}, {2, 3, 1, 1}, {0, 2, 1, 9}, {1, 3, 1, 9}}), 0, 3, 2, 20, []int64{1, 0, 1, 1, 1}, nil},
		// Neither out of the last one, nor into the first one, nor round for nothing.
		{of(3, rows{{0, 1, 9, 1}, {1, 0, 9, 0}, {1, 2, 9, 1}, {2, 1, 9, 1}, {1, 1, 9, 1}, {0, 0, 9, 1}}), 0, 2, 5, 10, []int64{5, 0, 5, 0, 0, 0}, []int64{0, 1, 2}},
		// The greatest numbers.
		{of(2, rows{{0, 1, great, dear}}), 0, 1, much, much * dear, []int64{much}, []int64{0, dear}},
		{of(3, rows{{0, 1, great, dear}, {1, 2, great, dear - 1}, {0, 2, 1, 2*dear - dear}}), 0, 2, much, 9999*(2*dear-1) + dear, []int64{9999, 9999, 1}, []int64{0, dear, 2*dear - 1}},
		{of(2, rows{{0, 1, 1, dear}, {0, 1, great, dear - 1}}), 0, 1, much, much * (dear - 1), []int64{0, much}, []int64{0, dear - 1}},
		{of(2, rows{{0, 1, 9999, dear - 1}, {0, 1, great, dear}}), 0, 1, much, much*dear - 9999, []int64{9999, 1}, []int64{0, dear}},
	} {
		r := found(t, c.n, c.from, c.to, c.want)
		if r.Cost != c.cost || c.flow != nil && !slices.Equal(r.Flow, c.flow) || c.highness != nil && !slices.Equal(r.High, c.highness) {
			t.Errorf("Least of %v, %d from %d to %d is %v, not %v, %d, %v", c.n, c.want, c.from, c.to, r, c.flow, c.cost, c.highness)
		}
	}
}

func TestWant(t *testing.T) {
	wide := of(2, rows{{0, 1, great, 1}})
	for _, want := range []int64{0, 1, 9999, 10000} {
		if r := found(t, wide, 0, 1, want); r.Cost != want {
			t.Errorf("%d cost %d", want, r.Cost)
		}
	}
	for _, want := range []int64{-1, 10001, 10002, -much, 1 << 32, 1<<32 + 1, -1 << 32, lowest, most} {
		refused(t, wide, 0, 1, want, api.ErrRange)
		right(t, wide, 0, 1, want, least.Result{Flow: []int64{want}, Cost: want, High: []int64{0, 1}})
	}
}

func TestDear(t *testing.T) {
	for cost, code := range map[int64]api.Errno{
		0: api.OK, 1: api.OK, dear - 1: api.OK, dear: api.OK,
		-1: api.ErrRange, dear + 1: api.ErrRange, -dear: api.ErrRange, great: api.ErrRange, great + 1: api.ErrRange, lowest: api.ErrRange, most: api.ErrRange,
	} {
		for at := range 3 {
			// A pipe that isn't used, or isn't there but in name, must be as it may be, too.
			n := of(4, rows{{0, 1, 1, 0}, {0, 1, 0, 0}, {3, 3, 0, 0}})
			n.Pipes[at].Cost = cost
			for want := range int64(2) {
				if code == api.OK {
					found(t, n, 0, 1, want)
				} else {
					refused(t, n, 0, 1, want, code)
				}
			}
		}
	}
}

// TestEnds: chapter 9's errors.
func TestEnds(t *testing.T) {
	n := of(3, rows{{0, 1, 3, 1}, {1, 2, 2, 1}, {0, 2, 1, 1}, {1, 1, 5, 1}})
	for _, i := range []int{-1, 3, 4, 1 << 32, 1<<32 + 1, -1 << 32, lowest, most} {
		refused(t, n, 0, i, 0, api.ErrRange)
		refused(t, n, i, 0, 0, api.ErrRange)
		refused(t, n, i, i, 0, api.ErrRange)
	}
	for i := range 3 {
		refused(t, n, i, i, 0, api.ErrRange)
	}
	for _, p := range []flow.Pipe{{From: 3}, {To: 3}, {From: -1}, {To: -1}, {Room: -1}, {Room: great + 1}, {Room: lowest}, {Room: most}, {From: most}, {To: lowest}} {
		for at := range 3 {
			n := flow.Net{N: 3, Pipes: make([]flow.Pipe, 3)}
			n.Pipes[at] = p
			refused(t, n, 0, 1, 0, api.ErrRange)
		}
	}
	for _, nodes := range []int{-1, 1001, lowest, most, 1 << 32} {
		refused(t, flow.Net{N: nodes}, 0, 1, 0, api.ErrSize)
	}
	for _, n := range []flow.Net{{}, {N: 1}} {
		refused(t, n, 0, 0, 0, api.ErrRange)
		refused(t, n, 0, 1, 0, api.ErrRange)
	}
	refused(t, flow.Net{N: 2, Pipes: make([]flow.Pipe, 20001)}, 0, 1, 0, api.ErrSize)
	found(t, flow.Net{N: 2, Pipes: make([]flow.Pipe, 20000)}, 0, 1, 0)
	found(t, flow.Net{N: 1000}, 999, 0, 0)
}

// TestErrorsInOrder: the first error of several.
func TestErrorsInOrder(t *testing.T) {
	for _, want := range []int64{-1, 0, 1, 10001} {
		refused(t, of(1001, rows{{-1, 5000, -1, -1}}), 3, 3, want, api.ErrSize)
		refused(t, flow.Net{N: 2, Pipes: slices.Repeat([]flow.Pipe{{Cost: -1}}, 20001)}, 0, 1, want, api.ErrSize)
		refused(t, of(2, rows{{0, 1, 0, dear + 1}}), 0, 1, want, api.ErrRange)
		refused(t, of(2, rows{{0, 1, 0, 1}}), 0, 0, want, api.ErrRange)
	}
	refused(t, of(2, rows{{0, 1, 5, 1}}), 0, 1, 10001, api.ErrRange)
	refused(t, of(2, rows{{0, 1, 5, 1}}), 0, 1, 10000, api.ErrNone)
	refused(t, of(2, rows{{0, 1, 5, 1}}), 0, 1, -1, api.ErrRange)
}

// TestNone: not so much can flow.
func TestNone(t *testing.T) {
	for _, c := range []struct {
		n        flow.Net
		from, to int
		most     int64
	}{
		{flow.Net{N: 2}, 0, 1, 0},
		{of(2, rows{{0, 1, 5, 1}}), 0, 1, 5},
		{of(2, rows{{0, 1, 5, 1}}), 1, 0, 0},
		{of(2, rows{{0, 1, 0, 1}}), 0, 1, 0},
		{of(2, rows{{0, 1, 5, 9}, {0, 1, 4, 0}}), 0, 1, 9},
		{of(3, rows{{0, 1, 5, 1}, {1, 2, 3, 1}}), 0, 2, 3},
		{of(3, rows{{0, 1, 5, 1}, {0, 2, 3, 1}}), 0, 2, 3},
		{of(4, rows{{0, 1, 5, 1}, {2, 3, 5, 1}, {1, 1, 5, 0}}), 0, 3, 0},
		{of(4, rows{{0, 1, 1, 1}, {1, 2, 1, 1}, {2, 3, 1, 1}, {0, 2, 1, 9}, {1, 3, 1, 9}}), 0, 3, 2},
		{of(2, rows{{0, 1, 9998, 1}, {0, 1, 1, dear}}), 0, 1, 9999},
	} {
		found(t, c.n, c.from, c.to, c.most)
		refused(t, c.n, c.from, c.to, c.most+1, api.ErrNone)
		refused(t, c.n, c.from, c.to, much, api.ErrNone)
	}
}

// TestRightTold: by hand, each of the words broken once; and beside the words.
func TestRightTold(t *testing.T) {
	n := of(3, rows{{0, 1, 3, 1}, {1, 2, 2, 2}, {0, 2, 5, 4}, {2, 1, 2, 1}})
	type result = least.Result
	for _, c := range []struct {
		r    result
		want int64
		ok   bool
	}{
		{result{[]int64{2, 2, 1, 0}, 10, []int64{0, 1, 4}}, 3, true},
		{result{[]int64{2, 2, 1, 0}, 10, []int64{7, 8, 11}}, 3, true}, // Wherever it lies,
		{result{[]int64{2, 2, 1, 0}, 10, []int64{-4, -3, 0}}, 3, true},
		{result{[]int64{1, 1, 0, 0}, 3, []int64{0, 1, 3}}, 1, true},
		{result{[]int64{2, 2, 0, 0}, 6, []int64{0, 1, 3}}, 2, true}, // and with any heights that tell it.
		{result{[]int64{2, 2, 0, 0}, 6, []int64{0, 1, 4}}, 2, true},
		{result{[]int64{0, 0, 0, 0}, 0, []int64{0, 0, 0}}, 0, true},
		{result{nil, 0, nil}, 0, false},
		{result{[]int64{2, 2, 1, 0}, 10, []int64{0, 1, 4}}, 2, false}, // More than is wanted, or less.
		{result{[]int64{2, 2, 1, 0}, 10, []int64{0, 1, 4}}, 4, false},
		{result{[]int64{2, 2, 1, 0}, 9, []int64{0, 1, 4}}, 3, false}, // It doesn't cost that.
		{result{[]int64{2, 2, 1, 0}, 11, []int64{0, 1, 4}}, 3, false},
		{result{[]int64{2, 2, 1, 0}, 0, []int64{0, 1, 4}}, 3, false},
		{result{[]int64{2, 2, 1, 0}, 10, []int64{0, 1, 3}}, 3, false}, // Something flows up too steep a pipe.
		{result{[]int64{2, 2, 1, 0}, 10, []int64{0, 1, 5}}, 3, false}, // There is room in one that is too low.
		{result{[]int64{2, 2, 1, 0}, 10, []int64{0, 2, 4}}, 3, false},
		{result{[]int64{2, 2, 1, 0}, 10, []int64{0, 0, 4}}, 3, false},
		{result{[]int64{2, 2, 1, 0}, 10, []int64{0, 1}}, 3, false}, // Not each node's.
		{result{[]int64{2, 2, 1, 0}, 10, []int64{0, 1, 4, 4}}, 3, false},
		{result{[]int64{2, 2, 1, 0}, 10, nil}, 3, false},
		{result{[]int64{2, 2, 1}, 10, []int64{0, 1, 4}}, 3, false}, // Not each pipe's.
		{result{[]int64{2, 2, 1, 0, 0}, 10, []int64{0, 1, 4}}, 3, false},
		{result{nil, 10, []int64{0, 1, 4}}, 3, false},
		{result{[]int64{3, 3, 0, 0}, 9, []int64{0, 1, 3}}, 3, false}, // More than there is room.
		{result{[]int64{3, 2, 0, 0}, 7, []int64{0, 1, 3}}, 2, false}, // Some stays between.
		{result{[]int64{2, 1, 1, 0}, 8, []int64{0, 1, 3}}, 2, false},
		{result{[]int64{1, 2, 2, 1}, 14, []int64{0, 1, 4}}, 3, false}, // It is dear.
		{result{[]int64{0, 0, 3, 0}, 12, []int64{0, 1, 4}}, 3, false},
		{result{[]int64{2, 2, 1, -1}, 9, []int64{0, 1, 4}}, 3, false},
		{result{[]int64{-2, -2, 7, 0}, 22, []int64{0, 1, 4}}, 3, false},
		{result{[]int64{lowest, lowest, lowest, lowest}, 0, []int64{0, 1, 4}}, 0, false},
		{result{[]int64{most, most, most, most}, 0, []int64{0, 1, 4}}, 0, false},
	} {
		if ok := least.Right(n, 0, 2, c.want, c.r); ok != c.ok {
			t.Errorf("Right of %v, %d, %v is %t", n, c.want, c.r, ok)
		}
		right(t, n, 0, 2, c.want, c.r)
		right(t, n, 2, 0, c.want, c.r)
		right(t, n, 0, 0, c.want, c.r)
		right(t, n, 0, 3, c.want, c.r)
		right(t, n, -1, 2, c.want, c.r)
	}
}

// TestRightAsks: where a net may not be, or nodes, or a Cost, nothing is right, whatever is told of it.
func TestRightAsks(t *testing.T) {
	noughts := least.Result{Flow: []int64{0}, High: []int64{0, 0}}
	good := of(2, rows{{0, 1, 0, 0}})
	if !least.Right(good, 0, 1, 0, noughts) {
		t.Error("noughts aren't right")
	}
	for _, p := range []flow.Pipe{{To: 1, Cost: -1}, {To: 1, Cost: dear + 1}, {To: 2}, {From: -1}, {Room: -1}, {Room: great + 1}} {
		if least.Right(flow.Net{N: 2, Pipes: []flow.Pipe{p}}, 0, 1, 0, noughts) {
			t.Errorf("with a pipe %v noughts are right", p)
		}
	}
	for _, ends := range [][2]int{{0, 0}, {1, 1}, {0, 2}, {-1, 1}, {2, 0}} {
		if least.Right(good, ends[0], ends[1], 0, noughts) {
			t.Errorf("from %d to %d noughts are right", ends[0], ends[1])
		}
	}
	if long := make([]int64, 1001); least.Right(flow.Net{N: 1001}, 0, 1, 0, least.Result{High: long}) || !least.Right(flow.Net{N: 1000}, 0, 1, 0, least.Result{High: long[:1000]}) {
		t.Error("1000 nodes may be, 1001 may not")
	}
	if least.Right(flow.Net{N: 2, Pipes: make([]flow.Pipe, 20001)}, 0, 1, 0, least.Result{Flow: make([]int64, 20001), High: []int64{0, 0}}) {
		t.Error("20001 pipes are right")
	}
	for want, flowing := range map[int64]bool{-1: false, 0: true, 10000: true, 10001: false} {
		if least.Right(of(2, rows{{0, 1, great, 0}}), 0, 1, want, least.Result{Flow: []int64{want}, High: []int64{0, 0}}) != flowing {
			t.Errorf("Right of %d isn't %t", want, flowing)
		}
	}
}

// TestRightHigh: how high a node may lie, up to the edges.
func TestRightHigh(t *testing.T) {
	// A pipe in which there is room, and nothing, may be as steep as can be; one without room as low as can be.
	up, down := of(2, rows{{1, 0, 5, dear}}), of(2, rows{{0, 1, 0, 0}})
	for _, c := range []struct {
		low, high int64
		ok        bool
	}{
		{0, 0, true}, {-1, 1, true}, {-high, high, true}, {high, high, true}, {-high, -high, true}, {1 - high, high - 1, true},
		{-high - 1, 0, false}, {0, high + 1, false}, {-high - 1, high, false}, {-high, high + 1, false},
		{lowest, 0, false}, {lowest, most, false}, {0, most, false}, {most, most, false}, {lowest, lowest, false}, {-1 << 63, -1<<63 + 1, false}, {1 << 51, 1 << 51, false},
	} {
		r := least.Result{Flow: []int64{0}, High: []int64{c.low, c.high}}
		for _, n := range []flow.Net{up, down} {
			if ok := least.Right(n, 0, 1, 0, r); ok != c.ok {
				t.Errorf("Right of %v, %v is %t", n, r, ok)
			}
			right(t, n, 1, 0, 0, r)
		}
		// Where nothing joins them the nodes lie as they like.
		if ok := least.Right(flow.Net{N: 2}, 0, 1, 0, least.Result{High: r.High}); ok != c.ok {
			t.Errorf("Right of two nodes alone, %v is %t", r.High, ok)
		}
	}
	// All as high as may be, and something flows.
	for _, h := range []int64{-high, high - dear} {
		r := least.Result{Flow: []int64{3}, Cost: 3 * dear, High: []int64{h, h + dear}}
		if n := of(2, rows{{0, 1, 5, dear}}); !least.Right(n, 0, 1, 3, r) {
			t.Errorf("Right of %v, %v is false", n, r)
		}
	}
}

// TestRightRound: what flows round and round for nothing is right; what costs something so isn't, whatever that adds up to.
func TestRightRound(t *testing.T) {
	n := of(4, rows{{0, 1, great, 0}, {1, 0, great, 0}, {1, 1, great, 0}, {1, 2, great, 3}, {2, 3, great, 0}, {3, 2, great, 0}, {3, 3, great, 0}})
	flat := []int64{0, 0, 3, 3}
	for _, c := range []struct {
		l  []int64
		ok bool
	}{
		{[]int64{5, 0, 0, 5, 5, 0, 0}, true},
		{[]int64{9, 4, 7, 5, 5, 0, 0}, true},
		{[]int64{great, great - 5, great, 5, 5 + 11, 11, great}, true},
		{[]int64{great, great - 5, great + 1, 5, 5 + 11, 11, great}, false},
		{[]int64{great, great - 4, great, 5, 5 + 11, 11, great}, false},
	} {
		r := least.Result{Flow: c.l, Cost: 15, High: flat}
		if ok := least.Right(n, 0, 3, 5, r); ok != c.ok {
			t.Errorf("Right of %v, %v is %t", n, r, ok)
		}
		right(t, n, 0, 3, 5, r)
	}
	// 2^40 times 2^24, twice: added, in 64 bits, it is nothing.
	cheap := of(3, rows{{0, 1, 1, 0}, {1, 2, great, 1 << 24}, {2, 1, great, 1 << 24}, {1, 1, great, 1 << 24}})
	for _, l := range [][]int64{{1, great, great, 0}, {1, 0, 0, great}, {1, 1, 1, 0}, {1, 0, 0, 1}} {
		for _, far := range []int64{0, 1 << 24, -1 << 24} {
			for _, cost := range []int64{0, 1 << 24, 1 << 25} {
				r := least.Result{Flow: l, Cost: cost, High: []int64{0, 0, far}}
				if least.Right(cheap, 0, 1, 1, r) {
					t.Errorf("Right of %v, %v is true", cheap, r)
				}
			}
		}
	}
	if !least.Right(cheap, 0, 1, 1, least.Result{Flow: []int64{1, 0, 0, 0}, High: []int64{0, 0, 0}}) {
		t.Error("without what goes round it isn't right")
	}
}

// random: a net of few nodes that may be: Rooms and Costs small, or of all sizes.
func random(r *rand.Rand, nodes, pipes int) flow.Net {
	n := flow.Net{N: 2 + r.Intn(nodes-1)}
	wide, costly := r.Intn(3) == 0, r.Intn(3) == 0
	for range r.Intn(pipes + 1) {
		p := flow.Pipe{From: r.Intn(n.N), To: r.Intn(n.N), Room: r.Int63n(6), Cost: r.Int63n(5)}
		if wide {
			p.Room = r.Int63n(1<<r.Intn(41) + 1)
		}
		if costly {
			p.Cost = r.Int63n(1<<r.Intn(33) + 1)
		}
		n.Pipes = append(n.Pipes, p)
	}
	return n
}

// ends: two nodes of a net.
func ends(r *rand.Rand, n flow.Net) (int, int) {
	l := r.Perm(n.N)
	return l[0], l[1]
}

// TestAllFlows: of little nets every flow, and some lists that are none: Least costs as much as the cheapest one; and of each, with all heights that are near: Right beside the words, and never where another one costs less.
func TestAllFlows(t *testing.T) {
	r := rand.New(rand.NewSource(1))
	told, good := 0, 0
	for range 1000 {
		n := random(r, 4, 5)
		edges := make([]int64, len(n.Pipes))
		for k := range n.Pipes {
			n.Pipes[k].Room %= 3
			n.Pipes[k].Cost %= 4
			edges[k] = n.Pipes[k].Room
		}
		from, to := ends(r, n)
		cheapest := map[int64]int64{}
		lists(0, edges, func(l []int64) {
			for want := range int64(9) {
				if flows(n, l, from, to, want) {
					sum := costs(n, l).Int64()
					if was, ok := cheapest[want]; !ok || sum < was {
						cheapest[want] = sum
					}
				}
			}
		})
		for want := range int64(9) {
			cost, ok := cheapest[want]
			if !ok {
				refused(t, n, from, to, want, api.ErrNone)
				continue
			}
			told++
			if got := found(t, n, from, to, want); got.Cost != cost {
				t.Fatalf("Least of %v, %d from %d to %d is %v, not %d", n, want, from, to, got, cost)
			}
		}
		good += heights(t, n, from, to, edges, cheapest)
	}
	if told < 1000 || good < 50000 {
		t.Errorf("only %d flow, only %d are right", told, good)
	}
}

// heights: Right of all numbers up to the Rooms, with all heights from -1 to 2; how many are right.
func heights(t *testing.T, n flow.Net, from, to int, edges []int64, cheapest map[int64]int64) int {
	t.Helper()
	good := 0
	lists(0, edges, func(l []int64) {
		sum := costs(n, l).Int64()
		lists(-1, slices.Repeat([]int64{2}, n.N), func(highs []int64) {
			for want := range int64(3) {
				a := least.Result{Flow: l, Cost: sum, High: highs}
				ok := least.Right(n, from, to, want, a)
				if ok != rightly(n, from, to, want, a) {
					t.Fatalf("Right of %v, %d from %d to %d, %v is %t", n, want, from, to, a, ok)
				}
				if !ok {
					continue
				}
				good++
				if sum != cheapest[want] {
					t.Fatalf("Right of %v, %d from %d to %d, %v is true, but %d is cheaper", n, want, from, to, a, cheapest[want])
				}
				a.Cost++
				right(t, n, from, to, want, a)
			}
		})
	})
	return good
}

// TestLeastAtRandom: beside what is cheapest one by one.
func TestLeastAtRandom(t *testing.T) {
	r := rand.New(rand.NewSource(2))
	flowing, none := 0, 0
	for range 12000 {
		n := random(r, 8, 24)
		from, to := ends(r, n)
		want := r.Int63n(12)
		cost, ok := unit(n, from, to, want)
		if !ok {
			none++
			refused(t, n, from, to, want, api.ErrNone)
			continue
		}
		if cost > 0 {
			flowing++
		}
		if got := found(t, n, from, to, want); got.Cost != cost {
			t.Fatalf("Least of %v, %d from %d to %d costs %d, not %d", n, want, from, to, got.Cost, cost)
		}
	}
	if flowing < 2000 || none < 2000 {
		t.Errorf("%d nets cost something, through %d not so much can flow", flowing, none)
	}
}

// TestLeastAsMuchAsCanBe: all that can flow, and one more.
func TestLeastAsMuchAsCanBe(t *testing.T) {
	r := rand.New(rand.NewSource(3))
	for range 6000 {
		n := random(r, 9, 30)
		from, to := ends(r, n)
		_, all, _ := flow.Most(n, from, to)
		found(t, n, from, to, min(all, much))
		if all < much {
			refused(t, n, from, to, all+1, api.ErrNone)
		}
	}
}

// TestRightAtRandom: what Least answers, a bit otherwise.
func TestRightAtRandom(t *testing.T) {
	r := rand.New(rand.NewSource(4))
	good, bad := 0, 0
	for range 20000 {
		n := random(r, 6, 12)
		from, to := ends(r, n)
		want := r.Int63n(5)
		a, e := least.Least(n, from, to, want)
		if e != api.OK {
			continue
		}
		step := []int64{1, -1, 2, dear, 1 << 32, 1 << 50, 1 << 51, lowest}[r.Intn(8)]
		switch r.Intn(5) {
		case 0:
			a.Cost += step
		case 1:
			if len(a.Flow) > 0 {
				a.Flow[r.Intn(len(a.Flow))] += step
			}
		case 2, 3:
			a.High[r.Intn(n.N)] += step
		case 4:
			for i := range a.High {
				a.High[i] += step
			}
		}
		right(t, n, from, to, want, a)
		right(t, n, from, to, want+1, a)
		right(t, n, to, from, want, a)
		if rightly(n, from, to, want, a) {
			good++
		} else {
			bad++
		}
	}
	if good < 2000 || bad < 2000 {
		t.Errorf("%d are right, %d aren't", good, bad)
	}
}

// TestGreatSums: the longest, dearest way, for as much as may be wanted.
func TestGreatSums(t *testing.T) {
	line := flow.Net{N: 1000}
	for i := range 999 {
		for range 20 {
			line.Pipes = append(line.Pipes, flow.Pipe{From: i, To: i + 1, Room: great, Cost: dear})
		}
	}
	r := found(t, line, 0, 999, much)
	if r.Cost != 999*much*dear {
		t.Errorf("it costs %d", r.Cost)
	}
	for i, h := range r.High {
		if h != int64(i)*dear {
			t.Errorf("node %d lies at %d", i, h)
		}
	}
	refused(t, line, 999, 0, 1, api.ErrNone)
	slices.Reverse(line.Pipes)
	line.Pipes = append(line.Pipes, flow.Pipe{From: 0, To: 999, Room: 9999, Cost: dear})
	if r := found(t, line, 0, 999, much); r.Cost != (9999+999)*dear || r.High[999] != 999*dear {
		t.Errorf("it costs %d, up to %d", r.Cost, r.High[999])
	}
	// A way through all nodes; for two it must all be taken back.
	back := of(1000, rows{{0, 1, 1, 0}, {998, 999, 1, 0}, {0, 998, 1, dear}, {1, 999, 1, dear}})
	for i := 1; i < 998; i++ {
		back.Pipes = append(back.Pipes, flow.Pipe{From: i, To: i + 1, Room: 1, Cost: 1})
	}
	for want, cost := range []int64{0, 997, 2 * dear} {
		if r := found(t, back, 0, 999, int64(want)); r.Cost != cost {
			t.Errorf("%d cost %d, not %d", want, r.Cost, cost)
		}
	}
	refused(t, back, 0, 999, 3, api.ErrNone)
}

// prices: ways to draw Costs.
func prices(r *rand.Rand) []func() int64 {
	return []func() int64{
		func() int64 { return 0 },
		func() int64 { return r.Int63n(3) },
		func() int64 { return r.Int63n(dear + 1) },
		func() int64 { return 1 << r.Intn(33) },
		func() int64 { return dear - 1 - r.Int63n(3) },
	}
}

// TestGreatNets: as many nodes and pipes as may be, drawn: all over, row by row, and side by side.
func TestGreatNets(t *testing.T) {
	r := rand.New(rand.NewSource(5))
	for _, price := range prices(r) {
		all := flow.Net{N: 1000}
		for len(all.Pipes) < 20000 {
			all.Pipes = append(all.Pipes, flow.Pipe{From: r.Intn(1000), To: r.Intn(1000), Room: 1 + r.Int63n(100), Cost: price()})
		}
		filled(t, all, 0, 999)
		filled(t, all, 600, 300)
		row := flow.Net{N: 1000}
		for len(row.Pipes) < 19900 {
			from := r.Intn(950)
			row.Pipes = append(row.Pipes, flow.Pipe{From: from, To: (from/50+1)*50 + r.Intn(50), Room: 1 + r.Int63n(50), Cost: price()})
		}
		for i := range 50 {
			row.Pipes = append(row.Pipes, flow.Pipe{From: 0, To: i, Room: great, Cost: price()}, flow.Pipe{From: 998 - i, To: 999, Room: great, Cost: price()})
		}
		filled(t, row, 0, 999)
		side := flow.Net{N: 3}
		for range 10000 {
			side.Pipes = append(side.Pipes, flow.Pipe{From: 0, To: 1, Room: 1, Cost: price()}, flow.Pipe{From: 1, To: 2, Room: 1, Cost: price()})
		}
		filled(t, side, 0, 2)
	}
}

// filled: as much as can flow, up to what may be wanted.
func filled(t *testing.T, n flow.Net, from, to int) {
	t.Helper()
	_, all, _ := flow.Most(n, from, to)
	if all == 0 {
		t.Fatalf("through %d nodes, pipes %v nothing can flow", n.N, few(n))
	}
	found(t, n, from, to, min(all, much))
	if all < much {
		refused(t, n, from, to, all+1, api.ErrNone)
	}
}

// TestSlowNets: nets in which each of very many is sent by a way of its own cost, or all of it must be sent anew whenever a way is found.
func TestSlowNets(t *testing.T) {
	r := rand.New(rand.NewSource(6))
	for _, price := range prices(r) {
		// Two rows, each of the first joined to some of the other, by pipes with room for one.
		two := flow.Net{N: 1000}
		for i := 1; i < 500; i++ {
			two.Pipes = append(two.Pipes, flow.Pipe{From: 0, To: i, Room: 16, Cost: price()}, flow.Pipe{From: 499 + i, To: 999, Room: 16, Cost: price()})
		}
		for len(two.Pipes) < 20000 {
			two.Pipes = append(two.Pipes, flow.Pipe{From: 1 + r.Intn(499), To: 500 + r.Intn(499), Room: 1, Cost: price()})
		}
		filled(t, two, 0, 999)
		// Two lines, one by which all comes, one by which all goes.
		lines := flow.Net{N: 1000}
		for i := range 249 {
			lines.Pipes = append(lines.Pipes, flow.Pipe{From: i, To: i + 1, Room: great, Cost: price()}, flow.Pipe{From: 998 - i, To: 999 - i, Room: great, Cost: price()})
		}
		for i := range 250 {
			for k := range 70 {
				lines.Pipes = append(lines.Pipes, flow.Pipe{From: 249 - i, To: 750 + (i+k)%250, Room: 1, Cost: price()})
			}
		}
		filled(t, lines, 0, 999)
	}
	// Ways that are ever dearer, each of which takes back what the one ahead of it sent.
	ladder := flow.Net{N: 40}
	for i := range 19 {
		at := 2 * i
		ladder.Pipes = append(ladder.Pipes, flow.Pipe{From: at, To: at + 2, Room: 1 << min(i, 13), Cost: 1 << i}, flow.Pipe{From: at + 1, To: at + 3, Room: 1 << min(i, 13), Cost: 1 << i})
		ladder.Pipes = append(ladder.Pipes, flow.Pipe{From: at, To: at + 3, Room: great, Cost: 1<<i - 1}, flow.Pipe{From: at + 1, To: at + 2, Room: great, Cost: 3})
	}
	filled(t, ladder, 0, 39)
	filled(t, ladder, 1, 38)
}

// TestLeavesWhatItGets: R5, spare room included.
func TestLeavesWhatItGets(t *testing.T) {
	all := of(0, rows{{0, 1, 2, 1}, {1, 2, 3, 7}, {0, 2, 9, 9}, {2, 0, 4, 0}, {1, 1, 1, 2}, {5, 5, -7, -7}}).Pipes
	flowing, highs := []int64{2, 2, 1, 0, 0, 77, 77}, []int64{0, 2, 9, 77, 77}
	keptPipes, keptFlow, keptHighs := slices.Clone(all), slices.Clone(flowing), slices.Clone(highs)
	for pipes := range 7 {
		n := flow.Net{N: 3, Pipes: all[:pipes]}
		for want := range int64(13) {
			least.Least(n, 0, 2, want)
			least.Least(n, 2, 0, want)
			least.Right(n, 0, 2, want, least.Result{Flow: flowing[:pipes], Cost: 25, High: highs[:3]})
			least.Right(n, 0, 2, want, least.Result{Flow: flowing, High: highs})
		}
		if !slices.Equal(all, keptPipes) || !slices.Equal(flowing, keptFlow) || !slices.Equal(highs, keptHighs) {
			t.Fatalf("with %d pipes: the pipes are %v now, the numbers %v, %v", pipes, all, flowing, highs)
		}
	}
}

// TestAnswersAreNew: R5 and R6: no answer shares anything with what was handed in, or with another answer, nor its two lists with one another.
func TestAnswersAreNew(t *testing.T) {
	n := of(3, rows{{0, 1, 3, 1}, {1, 2, 2, 2}, {0, 2, 5, 4}})
	kept := slices.Clone(n.Pipes)
	wantFlow, wantHigh := []int64{2, 2, 1}, []int64{0, 1, 4}
	first := found(t, n, 0, 2, 3)
	for range 3 {
		r := found(t, n, 0, 2, 3)
		for _, l := range [][]int64{r.Flow[:cap(r.Flow)], r.High[:cap(r.High)]} {
			if !slices.Equal(r.High, wantHigh) {
				t.Fatalf("the heights are %v now", r.High)
			}
			for i := range l {
				l[i] = 99
			}
		}
		if !slices.Equal(first.Flow, wantFlow) || !slices.Equal(first.High, wantHigh) || !slices.Equal(n.Pipes, kept) {
			t.Fatalf("the first answer is %v now, the pipes are %v", first, n.Pipes)
		}
	}
	n.Pipes[0].Room = 0
	if !slices.Equal(first.Flow, wantFlow) || !slices.Equal(first.High, wantHigh) {
		t.Errorf("what was answered hangs on the pipes: %v", first)
	}
}

// number: mostly a small one, else one of any size.
func number(r *rand.Rand) int64 {
	if r.Intn(12) > 0 {
		return r.Int63n(6)
	}
	return int64(r.Uint64()) >> r.Intn(64)
}

// numbers: as many as are told, mostly.
func numbers(r *rand.Rand, many int) []int64 {
	if r.Intn(6) == 0 {
		many = r.Intn(9)
	}
	l := make([]int64, many)
	for k := range l {
		l[k] = number(r)
	}
	return l
}

// wild: any net at all.
func wild(r *rand.Rand) flow.Net {
	n := flow.Net{N: int(number(r))}
	if r.Intn(2) == 0 {
		n = random(r, 6, 8)
	}
	for range r.Intn(3) {
		n.Pipes = append(n.Pipes, flow.Pipe{From: int(number(r)), To: int(number(r)), Room: number(r), Cost: number(r)})
	}
	return n
}

// TestAnything: P1 and R6: both calls answer of anything, and the same again.
func TestAnything(t *testing.T) {
	r := rand.New(rand.NewSource(7))
	seen := map[api.Errno]int{}
	for range 40000 {
		n := wild(r)
		from, to, want := int(number(r)), int(number(r)), number(r)
		a := least.Result{Flow: numbers(r, len(n.Pipes)), Cost: number(r), High: numbers(r, max(0, min(n.N, 9)))}
		right(t, n, from, to, want, a)
		code := checked(n, from, to, want)
		if code == api.OK {
			if _, all, _ := flow.Most(n, from, to); want > all {
				code = api.ErrNone
			}
		}
		seen[code]++
		if code != api.OK {
			refused(t, n, from, to, want, code)
			continue
		}
		first := found(t, n, from, to, want)
		again := found(t, n, from, to, want)
		if !slices.Equal(first.Flow, again.Flow) || !slices.Equal(first.High, again.High) || first.Cost != again.Cost {
			t.Errorf("Least of %v, %d from %d to %d is %v, then %v", n, want, from, to, first, again)
		}
	}
	for _, code := range []api.Errno{api.OK, api.ErrSize, api.ErrRange, api.ErrNone} {
		if seen[code] < 500 {
			t.Errorf("of the draws only %d ask for %d", seen[code], code)
		}
	}
}
