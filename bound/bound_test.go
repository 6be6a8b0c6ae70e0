package bound_test

import (
	"fmt"
	"math"
	"math/rand"
	"slices"
	"testing"

	"wharfage/api"
	"wharfage/block"
	"wharfage/bound"
	"wharfage/inst"
	"wharfage/reach"
	"wharfage/set"
)

const (
	lowest, most = math.MinInt64, math.MaxInt64
	great        = 1000000000 // The greatest number of an instance.
	sats         = 12         // The most satellites.
	customers    = 48         // The most customers.
	never        = 100        // What takes so long is too late.
	highest      = 1 << 50    // No high and no low is above that.
)

// square: a matrix of n rows of n numbers: from a node to itself 0, else what is told.
func square(n int, next func(i, k int) int64) [][]int64 {
	l := make([][]int64, n)
	for i := range l {
		l[i] = make([]int64, n)
		for k := range l[i] {
			if i != k {
				l[i][k] = next(i, k)
			}
		}
	}
	return l
}

// of: an instance of satellites with these Rooms, of customers with these Loads; for each satellite who may be served from it in time. Fleets have room for all; all ways cost 1.
func of(rooms, loads []int64, mays ...set.Set) inst.Instance {
	x := inst.Instance{End: 10, Trucks: inst.Fleet{Many: 60, Room: great}, Bikes: inst.Fleet{Many: 60, Room: great}}
	for _, n := range rooms {
		x.Sats = append(x.Sats, inst.Sat{Room: n})
	}
	for _, n := range loads {
		x.Customers = append(x.Customers, inst.Customer{Load: n, Close: 10})
	}
	x.Cost = square(x.Nodes(), func(_, _ int) int64 { return 1 })
	x.Time = square(x.Nodes(), func(i, k int) int64 {
		from, to := i-1-len(rooms), k-1-len(rooms)
		if from >= 0 && to >= 0 || i > 0 && from < 0 && to >= 0 && !mays[i-1].Has(to) {
			return never
		}
		return 1
	})
	return x
}

// direct: the same, of Loads 1, where from each satellite to the customers it costs what is told (below 0: it may not serve them), and from customer to customer as much as can be.
func direct(rooms []int64, costs ...[]int64) inst.Instance {
	mays := make([]set.Set, len(costs))
	for s, row := range costs {
		for c, cost := range row {
			if cost >= 0 {
				mays[s] = mays[s].With(c)
			}
		}
	}
	x := of(rooms, same(len(costs[0]), 1), mays...)
	for c := range x.Customers {
		for k := range x.Customers {
			if k != c {
				x.Cost[x.Customer(k)][x.Customer(c)] = great
			}
		}
		for s, row := range costs {
			x.Cost[x.Sat(s)][x.Customer(c)] = max(0, row[c])
		}
	}
	return x
}

// same: so many times the same number.
func same(many int, n int64) []int64 { return slices.Repeat([]int64{n}, many) }

// first: the set of the first customers.
func first(n int) set.Set { return 1<<n - 1 }

// one: the chapter's example, each way at another cost.
func one() inst.Instance {
	x := of([]int64{9}, []int64{5}, 1)
	x.Cost = [][]int64{{0, 10, 20}, {30, 0, 40}, {50, 60, 0}}
	return x
}

// whole: the document's example of all of it.
func whole() inst.Instance {
	x := of([]int64{9}, []int64{5}, 1)
	x.End, x.Trucks, x.Bikes = 40, inst.Fleet{Many: 1, Room: 9}, inst.Fleet{Many: 1, Room: 9}
	x.Sats[0].Hold, x.Customers[0] = 3, inst.Customer{Load: 5, Open: 9, Close: 20, Stay: 1}
	x.Cost = square(3, func(_, _ int) int64 { return 2 })
	x.Time = square(3, func(_, _ int) int64 { return 4 })
	return x
}

// found: the bound that Find must tell, and that must be right.
func found(t *testing.T, what string, x inst.Instance) bound.Bound {
	t.Helper()
	b, code := bound.Find(x)
	if code != api.OK {
		t.Fatalf("%s: Find's error is %d", what, code)
	}
	right(t, what, x, b, true)
	return b
}

// finds: what Find tells must be right, and these its sums.
func finds(t *testing.T, what string, x inst.Instance, out, back, trucks int64) bound.Bound {
	t.Helper()
	b := found(t, what, x)
	if b.Out != out || b.Back != back || b.Trucks != trucks || b.All != out+back+trucks {
		t.Errorf("%s: Find is %v, not %d, %d, %d", what, b, out, back, trucks)
	}
	return b
}

// right: whether that must be a bound.
func right(t *testing.T, what string, x inst.Instance, b bound.Bound, want bool) {
	t.Helper()
	if bound.Right(x, b) != want {
		t.Errorf("%s: Right of %v is %v", what, b, !want)
	}
}

// fails: Find must have that error, and tell nothing beside; nothing may be right.
func fails(t *testing.T, what string, x inst.Instance, want api.Errno) {
	t.Helper()
	b, code := bound.Find(x)
	if code != want {
		t.Errorf("%s: Find's error is %d, not %d", what, code, want)
	}
	if !empty(b) {
		t.Errorf("%s: beside it Find tells %v", what, b)
	}
	right(t, what, x, b, false)
}

// empty: is nothing told?
func empty(b bound.Bound) bool {
	return b.Out == 0 && b.Back == 0 && b.Trucks == 0 && b.All == 0 && len(b.From) == 0 && len(b.Highs) == 0 && len(b.Lows) == 0
}

// copied: a bound as one's own.
func copied(b bound.Bound) bound.Bound {
	b.From, b.Highs, b.Lows = slices.Clone(b.From), slices.Clone(b.Highs), slices.Clone(b.Lows)
	return b
}

func TestExamples(t *testing.T) {
	b := finds(t, "the chapter's", one(), 40, 60, 40)
	if len(b.From) != 1 || b.From[0] != 0 || len(b.Highs) != 1 || len(b.Lows) != 1 {
		t.Errorf("the chapter's: %v", b)
	}
	if b = finds(t, "the document's", whole(), 2, 2, 4); b.All != 8 {
		t.Errorf("the document's: All is %d", b.All)
	}
	if n := bound.Weight(whole(), 1, 0, 0); n != 2 {
		t.Errorf("the document's: Weight is %d", n)
	}
}

// weighs: Weight must be that.
func weighs(t *testing.T, what string, x inst.Instance, l set.Set, s, c int, want int64) {
	t.Helper()
	if n := bound.Weight(x, l, s, c); n != want {
		t.Errorf("%s: Weight by %v from %d to %d is %d, not %d", what, l.All(), s, c, n, want)
	}
}

// numbered: an instance of which each way has a cost of its own: a hundred times the node from which it goes, and the one to which it does.
func numbered() inst.Instance {
	x := of([]int64{9, 9}, []int64{1, 1, 1}, 7, 7)
	x.Cost = square(x.Nodes(), func(i, k int) int64 { return int64(100*i + k) })
	return x
}

// TestWeight: P16.1: from the satellite, or from another customer of the set, not from itself, nor from anywhere else, nor on to anywhere.
func TestWeight(t *testing.T) {
	x := numbered()
	for _, c := range []struct {
		l    []int
		s, c int
		want int64
	}{
		{[]int{}, 0, 0, 103},
		{[]int{}, 1, 0, 203},
		{[]int{0, 1, 2}, 1, 2, 205},
		{[]int{0, 1, 2}, 0, 1, 104},
	} {
		weighs(t, "from the satellite", x, set.Of(c.l...), c.s, c.c, c.want)
	}
	x.Cost[2][3], x.Cost[2][4], x.Cost[2][5] = 999, 999, 999
	for _, c := range []struct {
		l    []int
		c    int
		want int64
	}{
		{[]int{}, 0, 999},
		{[]int{0}, 0, 999},
		{[]int{1}, 0, 403},
		{[]int{2}, 0, 503},
		{[]int{0, 2}, 0, 503},
		{[]int{1, 2}, 0, 403},
		{[]int{0, 1, 2}, 0, 403},
		{[]int{0}, 1, 304},
		{[]int{1}, 1, 999},
		{[]int{1, 2}, 1, 504},
		{[]int{0, 1, 2}, 2, 305},
		{[]int{1, 2}, 2, 405},
		{[]int{1}, 2, 405},
		{[]int{2}, 2, 999},
	} {
		weighs(t, "from a customer", x, set.Of(c.l...), 1, c.c, c.want)
	}
	x.Cost[4][3] = 1000
	weighs(t, "a bit more than from the satellite", x, 7, 1, 0, 503)
	weighs(t, "a bit more than from the satellite", x, 3, 1, 0, 999)
	x.Cost[4][3] = 0
	weighs(t, "for nothing", x, 7, 1, 0, 0)
	x.Cost = square(x.Nodes(), func(_, _ int) int64 { return great })
	weighs(t, "as much as can be", x, 7, 1, 0, great)
}

// TestWeightOfNone: P16.1: 0, where one of those isn't there; who may be served in time is nothing to it, nor is a block.
func TestWeightOfNone(t *testing.T) {
	x := numbered()
	for _, n := range []int{-1, 3, 4, 5, 12, 48, 63, 64, 1 << 32, -1 << 32, lowest, most} {
		for _, l := range []set.Set{0, 1, 7} {
			weighs(t, "no such satellite", x, l, n, 0, 0)
			weighs(t, "no such customer", x, l, 0, n, 0)
			weighs(t, "neither", x, l, n, n, 0)
		}
	}
	weighs(t, "no such satellite, but a customer's node", x, 7, 2, 1, 0)
	weighs(t, "no such satellite, but the depot", x, 7, -1, 1, 0)
	weighs(t, "no such customer, but a satellite's node", x, 7, 0, -1, 0)
	for n := 3; n < 64; n++ {
		weighs(t, "no customer in the set", x, set.Of(n), 0, 0, 0)
		weighs(t, "no customer in the set", x, set.Of(0, 1, 2, n), 1, 2, 0)
	}
	weighs(t, "all that a set has", x, math.MaxUint64, 0, 0, 0)
	x.End, x.Bikes.Room, x.Trucks.Room = 0, 0, 0
	weighs(t, "nothing can be done", x, 7, 1, 0, 203)
	x = of(same(sats, 1), same(customers, 1), make([]set.Set, sats)...)
	x.Cost[x.Customer(customers-1)][x.Customer(20)] = 0
	weighs(t, "the last customer", x, first(customers), sats-1, 20, 0)
	weighs(t, "without the last one", x, first(customers-1), sats-1, 20, 1)
	x.Cost[x.Sat(sats-1)][x.Customer(customers-1)] = 0
	weighs(t, "the last satellite", x, first(customers), sats-1, customers-1, 0)
	weighs(t, "the one ahead of the last", x, first(customers), sats-2, customers-1, 1)
}

// weight: the chapter's word.
func weight(x inst.Instance, l set.Set, s, c int) int64 {
	costs := []int64{x.Cost[1+s][1+len(x.Sats)+c]}
	for k := range x.Customers {
		if l.Has(k) && k != c {
			costs = append(costs, x.Cost[1+len(x.Sats)+k][1+len(x.Sats)+c])
		}
	}
	return slices.Min(costs)
}

// TestWeightAtRandom: P16.1, by its words.
func TestWeightAtRandom(t *testing.T) {
	r := rand.New(rand.NewSource(1))
	for range 300 {
		x := drawn(r, 1+r.Intn(sats), 1+r.Intn(customers))
		for range 20 {
			l := set.Set(r.Uint64()) & set.Set(r.Uint64()) & first(len(x.Customers))
			s, c := r.Intn(len(x.Sats)), r.Intn(len(x.Customers))
			weighs(t, "at random", x, l, s, c, weight(x, l, s, c))
		}
	}
}

// TestOut: P16.2: customers' Weights, each from its satellite, none of which has more than its Counts.
func TestOut(t *testing.T) {
	for _, c := range []struct {
		what  string
		rooms []int64
		costs [][]int64
		want  int64
		from  []int
	}{
		{"each from where it is cheapest", []int64{3, 3}, [][]int64{{1, 5, 2}, {4, 3, 6}}, 6, []int{0, 1, 0}},
		{"just as many as may be", []int64{2, 1}, [][]int64{{1, 5, 2}, {4, 3, 6}}, 6, []int{0, 1, 0}},
		{"one less may be", []int64{1, 2}, [][]int64{{1, 5, 2}, {4, 3, 7}}, 9, []int{1, 1, 0}},
		{"no Room at one", []int64{0, 3}, [][]int64{{1, 5, 2}, {4, 3, 6}}, 13, []int{1, 1, 1}},
		{"one may not be served from where it is cheapest", []int64{3, 3}, [][]int64{{-1, 5, 2}, {4, 3, 6}}, 9, []int{1, 1, 0}},
		{"whoever may be served elsewhere makes place", []int64{1, 1}, [][]int64{{1, 2}, {90, -1}}, 92, []int{1, 0}},
		{"each makes place for the one ahead", []int64{1, 1, 1}, [][]int64{{1, 1, -1}, {-1, 8, 1}, {-1, -1, 40}}, 49, []int{0, 1, 2}},
		{"a chain through all of them", []int64{1, 1, 1}, [][]int64{{5, -1, 0}, {0, 5, -1}, {-1, 0, 90}}, 0, []int{1, 2, 0}},
		{"for nothing", []int64{3}, [][]int64{{0, 0, 0}}, 0, []int{0, 0, 0}},
		{"as dear as can be", []int64{3}, [][]int64{{great, great, great}}, 3 * great, []int{0, 0, 0}},
		{"the cheapest one of many", []int64{9, 9, 9, 9}, [][]int64{{9}, {8}, {6}, {7}}, 6, []int{2}},
	} {
		x := direct(c.rooms, c.costs...)
		b := finds(t, c.what, x, c.want, 1, 2)
		if !slices.Equal(b.From, c.from) {
			t.Errorf("%s: From is %v, not %v", c.what, b.From, c.from)
		}
	}
}

// TestOutByOthers: P16.2: a Weight goes by the satellite's own Mays, not by who is served from it.
func TestOutByOthers(t *testing.T) {
	x := direct([]int64{9, 9}, []int64{50, 50, -1}, []int64{70, -1, 70})
	finds(t, "by none", x, 170, 1, 2)
	x.Cost[x.Customer(1)][x.Customer(0)] = 3
	finds(t, "by another one of the satellite's", x, 123, 1, 2)
	x.Cost[x.Customer(2)][x.Customer(0)] = 2
	b := finds(t, "by one of another satellite's", x, 122, 1, 2)
	if !slices.Equal(b.From, []int{1, 0, 1}) {
		t.Errorf("From is %v", b.From)
	}
	x.Sats[1].Room = 1
	finds(t, "where there isn't Room for both", x, 123, 1, 2)
	x.Cost[x.Customer(2)][x.Customer(1)], x.Cost[x.Customer(1)][x.Customer(2)] = 0, 0
	finds(t, "not by one who may not be served from there", x, 123, 1, 2)
	x.Cost[x.Customer(0)][x.Customer(1)], x.Cost[x.Customer(0)][x.Customer(2)] = 4, 5
	finds(t, "who is served from elsewhere, too", x, 12, 1, 2)
}

// TestBack: P16.2: the cheapest way from a customer to a satellite that may serve it, as often as bikes must go at least.
func TestBack(t *testing.T) {
	x := direct([]int64{9, 9}, []int64{0, 0, -1}, []int64{-1, 0, 0})
	for c, backs := range [][2]int64{{31, 3}, {32, 33}, {2, 34}} {
		for s, cost := range backs {
			x.Cost[x.Customer(c)][x.Sat(s)] = cost
		}
	}
	finds(t, "not where a satellite may not serve it", x, 0, 31, 2)
	x.Cost[x.Customer(1)][x.Sat(1)] = 30
	finds(t, "to the second satellite", x, 0, 30, 2)
	x.Cost[x.Customer(2)][x.Sat(1)] = 29
	finds(t, "of the last customer", x, 0, 29, 2)
	x.Cost[x.Customer(1)][x.Sat(0)] = 28
	finds(t, "of one of both", x, 0, 28, 2)
	x.Cost[x.Customer(0)][0], x.Cost[x.Customer(0)][x.Customer(1)] = 0, 0
	x.Cost[0][x.Customer(0)], x.Cost[x.Sat(0)][x.Sat(1)] = 0, 0
	finds(t, "ways elsewhere are nothing to it", x, 0, 28, 2)
}

// TestTrucks: P16.2: the cheapest way out, and the cheapest one back, to whatever satellites, as often as trucks must go at least.
func TestTrucks(t *testing.T) {
	x := direct([]int64{9, 9, 0}, []int64{0, 0}, []int64{0, 0}, []int64{-1, -1})
	for s, ways := range [][2]int64{{40, 52}, {41, 51}, {42, 53}} {
		x.Cost[0][x.Sat(s)], x.Cost[x.Sat(s)][0] = ways[0], ways[1]
	}
	finds(t, "out to one, back from another one", x, 0, 1, 91)
	x.Cost[0][x.Sat(2)] = 30
	finds(t, "out to one from which nobody is served", x, 0, 1, 81)
	x.Cost[x.Sat(2)][0] = 20
	finds(t, "back from there, too", x, 0, 1, 50)
	x.Cost[x.Sat(0)][0] = 19
	finds(t, "back from the first one", x, 0, 1, 49)
	x.Cost[0][x.Sat(0)] = 18
	finds(t, "out to the first one", x, 0, 1, 37)
	x.Cost[0][x.Customer(0)], x.Cost[x.Customer(0)][0], x.Cost[x.Sat(0)][x.Sat(1)] = 0, 0, 0
	finds(t, "ways elsewhere are nothing to it", x, 0, 1, 37)
}

// TestRounds: P16.2: all Loads by a fleet's Room, rounded up.
func TestRounds(t *testing.T) {
	for _, c := range []struct {
		loads []int64
		room  int64
		want  int64
	}{
		{[]int64{5}, 5, 1},
		{[]int64{5}, 6, 1},
		{[]int64{5}, great, 1},
		{[]int64{5, 1}, 5, 2},
		{[]int64{5, 4}, 5, 2},
		{[]int64{5, 5}, 5, 2},
		{[]int64{5, 5, 1}, 5, 3},
		{[]int64{5, 4, 2}, 11, 1},
		{[]int64{5, 4, 2}, 10, 2},
		{[]int64{1, 1, 1}, 1, 3},
		{same(customers, great/5), great / 5, 48},
		{same(customers, great/5-1), great / 5, 48},
		{same(40, 3), 6, 20},
		{same(41, 3), 6, 21},
	} {
		many := len(c.loads)
		x := of(same(sats, great), c.loads, slices.Repeat([]set.Set{first(many)}, sats)...)
		x.Cost = square(x.Nodes(), func(_, _ int) int64 { return 7 })
		what := fmt.Sprint(c.loads, " by ", c.room)
		x.Bikes.Room = c.room
		far := (x.Load() + great - 1) / great
		finds(t, what+" on bikes", x, 7*int64(many), 7*c.want, 14*far)
		x.Bikes.Room, x.Trucks.Room = great, c.room
		finds(t, what+" on trucks", x, 7*int64(many), 7*far, 14*c.want)
	}
}

// TestGreatNumbers: P16.2: numbers as great as may be: what is added stays right beyond 32 bits.
func TestGreatNumbers(t *testing.T) {
	x := of(same(sats, great), same(customers, 1), slices.Repeat([]set.Set{first(customers)}, sats)...)
	x.Cost = square(x.Nodes(), func(_, _ int) int64 { return great })
	x.Trucks.Room, x.Bikes.Room = 1, 1
	finds(t, "as many as may be", x, 48*great, 48*great, 96*great)
	x = of(same(sats, great), same(sats, great), slices.Repeat([]set.Set{first(sats)}, sats)...)
	x.Cost = square(x.Nodes(), func(_, _ int) int64 { return great })
	finds(t, "as great as may be", x, sats*great, sats*great, 2*sats*great)
	x.Trucks, x.Bikes = inst.Fleet{Many: 60, Room: great / 5}, inst.Fleet{Many: 12, Room: great}
	finds(t, "as many trucks as may be", x, sats*great, sats*great, 120*great)
}

// told is an instance of which there is no block, and what lower layers tell of it, so that it needn't be asked anew.
type told struct {
	x       inst.Instance
	mays    []set.Set
	counts  []int
	weights [][]int64 // Of each satellite, each customer's Weight.
}

// ask: an instance, with that.
func ask(x inst.Instance) told {
	v := told{x: x, mays: reach.Mays(x), counts: block.Counts(x)}
	for s, may := range v.mays {
		row := make([]int64, len(x.Customers))
		for c := range row {
			row[c] = weight(x, may, s, c)
		}
		v.weights = append(v.weights, row)
	}
	return v
}

// sums: a bound of these satellites, with the chapter's sums of it.
func (v told) sums(from []int) bound.Bound {
	b := bound.Bound{From: from}
	for c, s := range from {
		b.Out += v.weights[s][c]
	}
	load := int64(0)
	for _, c := range v.x.Customers {
		load += c.Load
	}
	var outs, ins, backs []int64
	for s, may := range v.mays {
		outs, ins = append(outs, v.x.Cost[0][1+s]), append(ins, v.x.Cost[1+s][0])
		for c := range v.x.Customers {
			if may.Has(c) {
				backs = append(backs, v.x.Cost[1+len(v.x.Sats)+c][1+s])
			}
		}
	}
	for left := load; left > 0; left -= v.x.Bikes.Room {
		b.Back += slices.Min(backs)
	}
	for left := load; left > 0; left -= v.x.Trucks.Room {
		b.Trucks += slices.Min(outs) + slices.Min(ins)
	}
	b.All = b.Out + b.Back + b.Trucks
	return b
}

// ways: all ways to serve each customer from a satellite that may, none of which serves more than its Counts.
func (v told) ways() [][]int {
	var l [][]int
	from, left := make([]int, len(v.x.Customers)), slices.Clone(v.counts)
	var next func(c int)
	next = func(c int) {
		if c == len(from) {
			l = append(l, slices.Clone(from))
			return
		}
		for s := range left {
			if v.mays[s].Has(c) && left[s] > 0 {
				from[c] = s
				left[s]--
				next(c + 1)
				left[s]++
			}
		}
	}
	next(0)
	return l
}

// says: the chapter's words of Right, where numbers are so near to 0 that nothing goes round.
func (v told) says(b bound.Bound) bool {
	n, m := len(v.x.Customers), len(v.x.Sats)
	if len(b.From) != n || len(b.Highs) != n || len(b.Lows) != m {
		return false
	}
	served, worth := make([]int, m), int64(0)
	for c, s := range b.From {
		if s < 0 || s >= m || !v.mays[s].Has(c) {
			return false
		}
		served[s]++
		worth += b.Highs[c]
	}
	for s := range m {
		if served[s] > v.counts[s] || b.Lows[s] < 0 {
			return false
		}
		worth -= b.Lows[s] * int64(v.counts[s])
		for c := range n {
			if v.mays[s].Has(c) && b.Highs[c]-b.Lows[s] > v.weights[s][c] {
				return false
			}
		}
	}
	own := v.sums(b.From)
	return worth == b.Out && b.Out == own.Out && b.Back == own.Back && b.Trucks == own.Trucks && b.All == own.All
}

// drawn: an instance of so many satellites and customers, in which satellites have room for not many more than there are, so that often the cheapest ones are full.
func drawn(r *rand.Rand, s, c int) inst.Instance {
	odds, much := 1+r.Intn(4), 1+r.Int63n(3)
	mays := make([]set.Set, s)
	for k := range c {
		mays[r.Intn(s)] |= 1 << k
		for i := range mays {
			if r.Intn(4) < odds {
				mays[i] |= 1 << k
			}
		}
	}
	loads, rooms := make([]int64, c), make([]int64, s)
	for k := range loads {
		loads[k] = 1 + r.Int63n(much)
	}
	for i := range rooms {
		rooms[i] = much + r.Int63n(much*int64(c/s+1))
	}
	x := of(rooms, loads, mays...)
	x.Bikes.Room, x.Trucks.Room = much+r.Int63n(5), 1+x.Load()/(1+r.Int63n(9))
	dear, far, cheap := []int64{3, 20, great}[r.Intn(3)], []int64{0, 5, great / 2}[r.Intn(3)], r.Intn(s+1)
	x.Cost = square(x.Nodes(), func(i, k int) int64 {
		switch {
		case i > s && k > s:
			return min(great, far+r.Int63n(dear+1))
		case i == cheap:
			return r.Int63n(dear/3 + 1)
		}
		return r.Int63n(dear + 1)
	})
	return x
}

// open: one that is drawn so of which there is no block.
func open(r *rand.Rand, s, c int) told {
	for {
		x := drawn(r, s, c)
		if _, ok := block.Find(x); !ok {
			return ask(x)
		}
	}
}

// TestAtRandom: P16.2, P16.3: little ones, by all ways to serve customers.
func TestAtRandom(t *testing.T) {
	r := rand.New(rand.NewSource(2))
	full := 0
	for range 2500 {
		v := open(r, 1+r.Intn(4), 1+r.Intn(6))
		want, free := v.least(), v.freely()
		b := finds(t, fmt.Sprintf("at random %v", v.x), v.x, want.Out, want.Back, want.Trucks)
		if !v.says(b) {
			t.Errorf("of %v the bound is %v", v.x, b)
		}
		if want.Out > free {
			full++
		}
	}
	if full < 300 {
		t.Errorf("of only %d a satellite is full", full)
	}
}

// least: the sums of a cheapest way.
func (v told) least() bound.Bound {
	ways := v.ways()
	best := v.sums(ways[0])
	for _, from := range ways {
		if b := v.sums(from); b.Out < best.Out {
			best = b
		}
	}
	return best
}

// freely: what all would cost, if satellites served as many as are to be.
func (v told) freely() int64 {
	all := int64(0)
	for c := range v.x.Customers {
		var costs []int64
		for s, may := range v.mays {
			if may.Has(c) {
				costs = append(costs, v.weights[s][c])
			}
		}
		all += slices.Min(costs)
	}
	return all
}

// TestGreatOnes: P16.2, P16.3: up to as many satellites and customers as may be: the bound is right by the words, and costs what customers cost who come one by one, each as cheap as can be by then.
func TestGreatOnes(t *testing.T) {
	r := rand.New(rand.NewSource(3))
	full := 0
	for i := range 80 {
		s, c := sats, customers
		if i > 40 {
			s, c = 1+r.Intn(sats), 1+r.Intn(customers)
		}
		v := open(r, s, c)
		b := found(t, "a great one", v.x)
		if !v.says(b) {
			t.Errorf("of %v the bound is %v", v.x, b)
		}
		if want := v.oneByOne(); b.Out != want {
			t.Errorf("of %v Out is %d, not %d", v.x, b.Out, want)
		}
		if b.Out > v.freely() {
			full++
		}
	}
	if full < 20 {
		t.Errorf("of only %d a satellite is full", full)
	}
}

// oneByOne: what all cost at least: customers come one by one, each to a satellite that may serve it, from which others move on to others, by the cheapest chain.
func (v told) oneByOne() int64 {
	all, left := int64(0), slices.Clone(v.counts)
	from := slices.Repeat([]int{-1}, len(v.x.Customers))
	for c := range from {
		// How dear it is to have one more at each satellite; who comes there last, and from where.
		dear, who, was := same(len(left), api.Far), make([]int, len(left)), make([]int, len(left))
		for range left {
			for s, may := range v.mays {
				for k := range c + 1 {
					if !may.Has(k) || from[k] == s {
						continue
					}
					more := v.weights[s][k]
					if k < c {
						more += dear[from[k]] - v.weights[from[k]][k]
					}
					if more < dear[s] {
						dear[s], who[s], was[s] = more, k, from[k]
					}
				}
			}
		}
		best := -1
		for s := range left {
			if left[s] > 0 && (best < 0 || dear[s] < dear[best]) {
				best = s
			}
		}
		all += dear[best]
		left[best]--
		for s := best; s >= 0; s = was[s] {
			from[who[s]] = s
		}
	}
	return all
}

// TestAllLittleBounds: P16.2, P16.3: of little instances all bounds near by: Right says what the words do, and where it says yes, nothing is cheaper.
func TestAllLittleBounds(t *testing.T) {
	r := rand.New(rand.NewSource(4))
	yes := 0
	for range 25 {
		x := open(r, 2, 2).x
		x.Cost = square(x.Nodes(), func(_, _ int) int64 { return r.Int63n(3) })
		if r.Intn(2) == 0 {
			x.Cost[3][4], x.Cost[4][3] = 2, 2
		}
		v := ask(x)
		want := v.least()
		for n := range 4 * 900 {
			b := v.sums([]int{n % 2, n / 2 % 2})
			n /= 4
			b.Highs = []int64{int64(n%6) - 1, int64(n/6%6) - 1}
			b.Lows = []int64{int64(n/36%5) - 1, int64(n/180) - 1}
			ok := v.says(b)
			right(t, fmt.Sprint(v.x), v.x, b, ok)
			if ok {
				yes++
				if b.Out != want.Out {
					t.Errorf("of %v %v is right, but %v is cheaper", v.x, b, want)
				}
			}
		}
	}
	if yes < 100 {
		t.Errorf("only %d are right", yes)
	}
}

// changes: what one may change of a bound, so that it isn't right.
func changes(x inst.Instance) map[string]func(b *bound.Bound) {
	l := map[string]func(b *bound.Bound){
		"no From":                    func(b *bound.Bound) { b.From = nil },
		"a From less":                func(b *bound.Bound) { b.From = b.From[:len(b.From)-1] },
		"a From more":                func(b *bound.Bound) { b.From = append(b.From, 0) },
		"no Highs":                   func(b *bound.Bound) { b.Highs = nil },
		"a High less":                func(b *bound.Bound) { b.Highs = b.Highs[:len(b.Highs)-1] },
		"a High more":                func(b *bound.Bound) { b.Highs = append(b.Highs, 0) },
		"no Lows":                    func(b *bound.Bound) { b.Lows = nil },
		"a Low less":                 func(b *bound.Bound) { b.Lows = b.Lows[:len(b.Lows)-1] },
		"a Low more":                 func(b *bound.Bound) { b.Lows = append(b.Lows, 0) },
		"nothing":                    func(b *bound.Bound) { *b = bound.Bound{} },
		"Out and All more":           func(b *bound.Bound) { b.Out, b.All = b.Out+1, b.All+1 },
		"Out more, Back less":        func(b *bound.Bound) { b.Out, b.Back = b.Out+1, b.Back-1 },
		"Trucks more, Back less":     func(b *bound.Bound) { b.Trucks, b.Back = b.Trucks+1, b.Back-1 },
		"Back and All more":          func(b *bound.Bound) { b.Back, b.All = b.Back+1, b.All+1 },
		"Trucks and All more":        func(b *bound.Bound) { b.Trucks, b.All = b.Trucks+1, b.All+1 },
		"Out, All and a High more":   func(b *bound.Bound) { b.Out, b.All, b.Highs[0] = b.Out+1, b.All+1, b.Highs[0]+1 },
		"Out, All and a High less":   func(b *bound.Bound) { b.Out, b.All, b.Highs[0] = b.Out-1, b.All-1, b.Highs[0]-1 },
		"a High more, another less":  func(b *bound.Bound) { b.Highs[0], b.Highs[1] = b.Highs[0]+1, b.Highs[1]-1 },
		"a High and all Lows more":   func(b *bound.Bound) { b.Highs[0], b.Lows[0], b.Lows[1] = b.Highs[0]+1, b.Lows[0]+1, b.Lows[1]+1 },
		"From the wrong way round":   func(b *bound.Bound) { slices.Reverse(b.From) },
		"all from the first":         func(b *bound.Bound) { clear(b.From) },
		"Highs the wrong way round":  func(b *bound.Bound) { slices.Reverse(b.Highs) },
		"a satellite too far behind": func(b *bound.Bound) { b.From[2] = len(x.Sats) },
	}
	for _, n := range []int64{-1, 1, 1 << 32, -1 << 32, lowest, most} {
		for at, name := range []string{"Out", "Back", "Trucks", "All"} {
			l[fmt.Sprint(name, " by ", n)] = func(b *bound.Bound) { *[]*int64{&b.Out, &b.Back, &b.Trucks, &b.All}[at] += n }
		}
		for c := range x.Customers {
			l[fmt.Sprint("High ", c, " by ", n)] = func(b *bound.Bound) { b.Highs[c] += n }
			l[fmt.Sprint("High ", c, " is ", n-7)] = func(b *bound.Bound) { b.Highs[c] = n - 7 }
			l[fmt.Sprint("From ", c, " is ", n)] = func(b *bound.Bound) { b.From[c] = int(n) * 3 }
		}
	}
	return l
}

// TestRight: P16.2: what isn't so is refused, one thing at a time.
func TestRight(t *testing.T) {
	// Two are served from the first satellite, the last one from the second one; the third satellite serves none.
	x := direct([]int64{2, 3, 0}, []int64{4, 2, 1}, []int64{9, 9, 5}, []int64{-1, -1, -1})
	b := finds(t, "as it is", x, 11, 1, 2)
	if !slices.Equal(b.From, []int{0, 0, 1}) {
		t.Fatalf("From is %v", b.From)
	}
	own := bound.Bound{Out: 11, From: []int{0, 0, 1}, Back: 1, Trucks: 2, All: 14, Highs: []int64{9, 7, 5}, Lows: []int64{5, 0, 0}}
	right(t, "one's own", x, own, true)
	for what, change := range changes(x) {
		b := copied(own)
		change(&b)
		right(t, what, x, b, false)
	}
	for _, low := range []int64{0, 1, 1 << 20, highest} {
		b := copied(own)
		b.Lows[2] = low
		right(t, "a Low of a satellite that serves none", x, b, true)
	}
	for _, low := range []int64{-1, -6, -highest, highest + 1, 1 << 51, -1 << 51, 1 << 62, lowest, most} {
		b := copied(own)
		b.Lows[2] = low
		right(t, "a Low as none may be", x, b, false)
	}
	for _, low := range []int64{4, 6, -5, 0} {
		b := copied(own)
		b.Lows[0] = low
		right(t, "another Low", x, b, false)
	}
	b = copied(own)
	b.From, b.Out, b.All = []int{1, 1, 1}, 23, 26
	right(t, "not from where they are cheap: highs and lows say less", x, b, false)
	b = copied(own)
	b.Highs, b.Lows, b.Out, b.All = []int64{4, 2, 1}, []int64{0, 0, 0}, 7, 10
	right(t, "highs and lows say less, and so it is told", x, b, false)
	b.All = 14
	right(t, "and the sum of all is as it must be", x, b, false)
	b = copied(own)
	b.Highs = []int64{4, 2, 5}
	b.Lows = []int64{0, 0, 0}
	right(t, "one High more than a Low and a Weight", x, b, false)
}

// TestOtherBounds: P16.2: Right isn't only of what Find tells: there are other ways as cheap, other highs and lows.
func TestOtherBounds(t *testing.T) {
	x := direct([]int64{1, 1}, []int64{1, 1}, []int64{5, 5})
	for _, from := range [][]int{{0, 1}, {1, 0}} {
		for _, low := range []int64{0, 1, 7, 1 << 40} {
			b := bound.Bound{Out: 6, From: from, Back: 1, Trucks: 2, All: 9, Highs: []int64{5 + low, 5 + low}, Lows: []int64{4 + low, low}}
			right(t, "as cheap", x, b, true)
			b.Lows[0]++
			right(t, "a Low more", x, b, false)
			b.Highs[0]++
			right(t, "a High more", x, b, false)
			b.Lows[0]--
			b.Lows[1]++
			right(t, "the other Low more", x, b, false)
		}
	}
	// From the second satellite to all but one it costs so much more that the first one's Low may be lower.
	x = direct([]int64{2, 2}, []int64{1, 1, 1}, []int64{9, 9, 5})
	for low := range int64(8) {
		b := bound.Bound{Out: 7, From: []int{0, 0, 1}, Back: 1, Trucks: 2, All: 10, Highs: []int64{1 + low, 1 + low, 5}, Lows: []int64{low, 0}}
		right(t, fmt.Sprint("a Low of ", low), x, b, low >= 4)
	}
	x.Cost[x.Sat(1)][x.Customer(0)] = 7
	for low := range int64(12) {
		b := bound.Bound{Out: 7, From: []int{0, 0, 1}, Back: 1, Trucks: 2, All: 10, Highs: []int64{1 + low, 1 + low, 5}, Lows: []int64{low, 0}}
		right(t, fmt.Sprint("a Low of ", low), x, b, low >= 4 && low <= 6)
	}
}

// TestAsMany: P16.2: a From and a High of each customer, a Low of each satellite, though sums are the same with one less or more.
func TestAsMany(t *testing.T) {
	x := direct([]int64{9, 9}, []int64{0, 0, 0}, []int64{0, 0, 0})
	own := bound.Bound{From: []int{0, 1, 0}, Back: 1, Trucks: 2, All: 3, Highs: []int64{0, 0, 0}, Lows: []int64{0, 0}}
	right(t, "as many as there are", x, own, true)
	for n := range 5 {
		b := copied(own)
		b.From = make([]int, n)
		right(t, fmt.Sprint("From of ", n), x, b, n == 3)
		b = copied(own)
		b.Highs = make([]int64, n)
		right(t, fmt.Sprint("Highs of ", n), x, b, n == 3)
		b = copied(own)
		b.Lows = make([]int64, n)
		right(t, fmt.Sprint("Lows of ", n), x, b, n == 2)
	}
}

// TestCountsFull: P16.2: a satellite serves as many as its Counts, not one more, though there were Room for the others by themselves.
func TestCountsFull(t *testing.T) {
	// Counts are 2 of the first satellite: 1 and 2; and 3 of the second one.
	x := of([]int64{4, 9}, []int64{3, 1, 2}, 7, 7)
	x.Cost = square(x.Nodes(), func(i, k int) int64 {
		if i == 1 && k > 2 {
			return 1
		}
		return 5
	})
	finds(t, "two of three", x, 7, 5, 10)
	b := bound.Bound{Out: 3, From: []int{0, 0, 0}, Back: 5, Trucks: 10, All: 18, Highs: []int64{1, 1, 1}, Lows: []int64{0, 0}}
	right(t, "three of two", x, b, false)
	x.Sats[0].Room = 5
	finds(t, "a bit too little Room", x, 7, 5, 10)
	right(t, "three of two", x, b, false)
	x.Sats[0].Room = 6
	finds(t, "Room for all three", x, 3, 5, 10)
	right(t, "three of three", x, b, true)
	// As many as its Counts, by whatever Loads: here 0 and 2, for whom there isn't Room.
	x.Sats[0].Room = 4
	x.Cost[1][4] = 3
	finds(t, "two of three, though they get too much", x, 7, 5, 10)
	x.Cost[1][4] = 4
	finds(t, "two of three, though they get too much", x, 7, 5, 10)
}

// TestFarFromNought: P16.2: highs and lows up to 2^50, and what is beyond, where all else would be right, or would come round to be.
func TestFarFromNought(t *testing.T) {
	x := direct([]int64{1, 1}, []int64{0, 0}, []int64{0, 0})
	at := func(high, low int64) bound.Bound {
		return bound.Bound{From: []int{0, 1}, Back: 1, Trucks: 2, All: 3, Highs: []int64{high, high}, Lows: []int64{low, low}}
	}
	for _, n := range []int64{0, 1, 1 << 30, highest - 1, highest} {
		right(t, "as far as may be", x, at(n, n), true)
		right(t, "only highs", x, at(n, 0), n == 0)
		right(t, "only lows", x, at(0, n), n == 0)
	}
	for _, n := range []int64{highest + 1, 1 << 51, 1 << 60, 1 << 61, 1 << 62, most, lowest, -1 << 62, -1 << 61, -1, -highest, -highest - 1} {
		right(t, "too far", x, at(n, n), false)
		right(t, "only highs", x, at(n, 0), false)
		right(t, "only lows", x, at(0, n), false)
	}
	for bits := 1; bits <= 5; bits++ {
		many, round := 1<<bits, int64(-1)<<(64-bits)
		x := direct([]int64{int64(many)}, make([]int64, many))
		b := bound.Bound{From: make([]int, many), Back: 1, Trucks: 2, All: 3, Highs: same(many, round), Lows: []int64{0}}
		right(t, fmt.Sprint("highs come round to 0: ", many), x, b, false)
		b.Highs, b.Lows[0] = make([]int64, many), round
		right(t, fmt.Sprint("lows below 0 come round to 0: ", many), x, b, false)
		if bits > 1 {
			b.Lows[0] = -round
			right(t, fmt.Sprint("lows come round to 0: ", many), x, b, false)
		}
		b.Lows[0] = 0
		right(t, "as it is", x, b, true)
	}
}

// TestGreatRight: P16.2: as far from 0 as may be, of as many as there are: nothing goes round.
func TestGreatRight(t *testing.T) {
	rows := slices.Repeat([][]int64{make([]int64, customers)}, sats)
	x := direct(same(sats, customers/sats), rows...)
	b := found(t, "for nothing", x)
	b.Highs, b.Lows = same(customers, highest), same(sats, highest)
	right(t, "as far as may be", x, b, true)
	b.Highs[47]--
	right(t, "one a bit lower", x, b, false)
	b.Highs[47]++
	b.Lows[11]--
	right(t, "one satellite a bit lower", x, b, false)
	x = direct(same(sats, customers), rows...)
	right(t, "as far as may be, where there is more Room", x, b, false)
	b.Lows = same(sats, highest)
	right(t, "as far as may be, where there is more Room", x, b, false)
	b.Highs, b.Lows = same(customers, -highest), make([]int64, sats)
	right(t, "as low as may be", x, b, false)
	b.Highs = same(customers, 0)
	right(t, "as it is", x, b, true)
}

// TestBlocks: P16.2: ErrNone, if there is a block, of whatever kind; nothing is right of it.
func TestBlocks(t *testing.T) {
	for _, c := range []struct {
		what   string
		kind   block.Kind
		change func(x *inst.Instance)
	}{
		{"too great", block.Big, func(x *inst.Instance) { x.Bikes.Room = 2 }},
		{"too late", block.Late, func(x *inst.Instance) { x.End = 1 }},
		{"too few trucks", block.Trucks, func(x *inst.Instance) { x.Trucks = inst.Fleet{Many: 2, Room: 3} }},
		{"no room on trucks", block.Trucks, func(x *inst.Instance) { x.Trucks.Room = 0 }},
		{"too few bikes", block.Bikes, func(x *inst.Instance) { x.Bikes = inst.Fleet{Many: 2, Room: 3} }},
		{"no room on bikes", block.Big, func(x *inst.Instance) { x.Bikes.Room = 0 }},
		{"too little Room", block.Load, func(x *inst.Instance) { x.Sats[0].Room, x.Sats[1].Room = 3, 3 }},
		{"too little for each", block.Count, func(x *inst.Instance) {
			x.Sats[0].Room, x.Sats[1].Room, x.Customers[1].Load, x.Customers[2].Load = 5, 4, 3, 3
		}},
	} {
		x := of([]int64{9, 9}, []int64{3, 2, 2}, 7, 7)
		b := found(t, "without a block", x)
		c.change(&x)
		if why, ok := block.Find(x); !ok || why.Kind != c.kind {
			t.Errorf("%s: the block is %v, %v", c.what, why, ok)
		}
		fails(t, c.what, x, api.ErrNone)
		right(t, c.what, x, b, false)
	}
}

// TestRightOfBlocks: P16.2: a bound isn't right where there is a block, though all else would be.
func TestRightOfBlocks(t *testing.T) {
	x := of([]int64{9}, []int64{3, 2, 2}, 7)
	b := bound.Bound{Out: 3, From: []int{0, 0, 0}, Back: 3, Trucks: 6, All: 12, Highs: []int64{1, 1, 1}, Lows: []int64{0}}
	x.Trucks, x.Bikes = inst.Fleet{Many: 3, Room: 3}, inst.Fleet{Many: 3, Room: 3}
	right(t, "no block", x, b, true)
	x.Trucks.Many = 2
	right(t, "too few trucks", x, b, false)
	x.Trucks.Many, x.Bikes.Many = 3, 2
	right(t, "too few bikes", x, b, false)
	x.Bikes.Many = 3
	right(t, "no block", x, b, true)
	// Each may be served from both satellites, and neither Counts is less than how many are served there.
	x = of([]int64{4, 3}, []int64{3, 3, 1}, 7, 7)
	b = bound.Bound{Out: 3, From: []int{0, 1, 0}, Back: 1, Trucks: 2, All: 6, Highs: []int64{1, 1, 1}, Lows: []int64{0, 0}}
	right(t, "just enough Room", x, b, true)
	x.Customers[1].Load = 2
	right(t, "a bit more than enough Room", x, b, true)
	x.Customers[1].Load, x.Customers[2].Load = 3, 2
	right(t, "too little Room", x, b, false)
}

// wrong: instances that may not be, and Check's error of each.
func wrong() map[string]inst.Instance {
	l := map[string]inst.Instance{"nothing": {}}
	for what, change := range map[string]func(x *inst.Instance){
		"End below 0":             func(x *inst.Instance) { x.End = -1 },
		"no truck":                func(x *inst.Instance) { x.Trucks.Many = 0 },
		"trucks below none":       func(x *inst.Instance) { x.Trucks.Many = lowest },
		"too many bikes":          func(x *inst.Instance) { x.Bikes.Many = 61 },
		"bikes' Room below 0":     func(x *inst.Instance) { x.Bikes.Room = lowest },
		"trucks' Room too great":  func(x *inst.Instance) { x.Trucks.Room = most },
		"no satellite":            func(x *inst.Instance) { x.Sats = nil },
		"a satellite less":        func(x *inst.Instance) { x.Sats = x.Sats[:1] },
		"too many satellites":     func(x *inst.Instance) { *x = of(same(sats+1, 9), same(3, 2), make([]set.Set, sats+1)...) },
		"Room below 0":            func(x *inst.Instance) { x.Sats[1].Room = lowest },
		"Hold below 0":            func(x *inst.Instance) { x.Sats[1].Hold = -1 },
		"no customer":             func(x *inst.Instance) { x.Customers = nil },
		"a customer more":         func(x *inst.Instance) { x.Customers = append(x.Customers, x.Customers[0]) },
		"too many customers":      func(x *inst.Instance) { *x = of(same(1, 99), same(customers+1, 2), first(customers+1)) },
		"more than a set holds":   func(x *inst.Instance) { *x = of(same(1, 300), same(100, 2), math.MaxUint64) },
		"Load 0":                  func(x *inst.Instance) { x.Customers[0].Load = 0 },
		"Load too great":          func(x *inst.Instance) { x.Customers[0].Load = most },
		"Close ahead of Open":     func(x *inst.Instance) { x.Customers[0].Open, x.Customers[0].Close = 5, 4 },
		"no Cost":                 func(x *inst.Instance) { x.Cost = nil },
		"Cost below 0":            func(x *inst.Instance) { x.Cost[1][2] = -1 },
		"Cost too great":          func(x *inst.Instance) { x.Cost[1][3] = great + 1 },
		"Cost as great as can be": func(x *inst.Instance) { x.Cost[0][1] = most },
		"Cost where one is":       func(x *inst.Instance) { x.Cost[4][4] = 1 },
		"a row of Time less":      func(x *inst.Instance) { x.Time = x.Time[1:] },
		"a shorter row of Cost":   func(x *inst.Instance) { x.Cost[5] = x.Cost[5][1:] },
		"no row of Cost":          func(x *inst.Instance) { x.Cost[1] = nil },
	} {
		x := of([]int64{9, 9}, []int64{3, 2, 2}, 7, 7)
		change(&x)
		l[what] = x
	}
	return l
}

// TestWrong: P16.1, P16.2: Check's error, ahead of any block; no Weight, and nothing right.
func TestWrong(t *testing.T) {
	b := found(t, "as it is", of([]int64{9, 9}, []int64{3, 2, 2}, 7, 7))
	for what, x := range wrong() {
		code := x.Check()
		if code == api.OK {
			t.Errorf("%s: Check has no error", what)
		}
		fails(t, what, x, code)
		right(t, what, x, b, false)
		for s := range 3 {
			for c := range 4 {
				weighs(t, what, x, 0, s, c, 0)
				weighs(t, what, x, 7, s, c, 0)
			}
		}
		x.Bikes.Room, x.End = 0, -1
		fails(t, what+", and a block", x, x.Check())
	}
}

// TestNothingElse: P16.2: how long things take, how many vehicles there are, changes nothing as long as the same may be served.
func TestNothingElse(t *testing.T) {
	r := rand.New(rand.NewSource(5))
	for range 100 {
		v := open(r, 1+r.Intn(3), 1+r.Intn(6))
		b := found(t, "as it is", v.x)
		x := v.x.Clone()
		x.End, x.Trucks.Many, x.Bikes.Many = 11, 59, 59
		for i := 1; i < x.Nodes(); i++ {
			x.Time[i][0] = r.Int63n(great)
		}
		finds(t, "all else", x, b.Out, b.Back, b.Trucks)
		right(t, "all else", x, b, true)
	}
}

// TestNoCheaperPlan: what P16.4 asks: whatever bikes go to all customers, whatever trucks to all satellites that they go from, within what the fleets have room for, costs no less.
func TestNoCheaperPlan(t *testing.T) {
	r := rand.New(rand.NewSource(6))
	just := 0
	for range 400 {
		v := open(r, 1+r.Intn(2), 1+r.Intn(4))
		b := found(t, "at random", v.x)
		cheapest := v.cheapest()
		if cheapest < b.All {
			t.Errorf("of %v there is a plan of %d, less than %v", v.x, cheapest, b)
		}
		if cheapest == b.All {
			just++
		}
	}
	if just < 30 {
		t.Errorf("only %d cost just as much", just)
	}
}

// cheapest: what the cheapest bikes and trucks cost.
func (v told) cheapest() int64 {
	best := int64(api.Far)
	left := make([]int64, len(v.x.Sats))
	for s, satellite := range v.x.Sats {
		left[s] = satellite.Room
	}
	var used set.Set
	// ride: a bike is at a node, away from a satellite, has so much room left; so many customers are left; so much is paid.
	var ride func(s, at int, room int64, open set.Set, paid int64)
	start := func(open set.Set, paid int64) {
		if open == 0 {
			best = min(best, paid+v.hauled(used))
			return
		}
		was := used
		for s := range left {
			used = was.With(s)
			ride(s, 1+s, v.x.Bikes.Room, open, paid)
		}
		used = was
	}
	ride = func(s, at int, room int64, open set.Set, paid int64) {
		if at > len(left) {
			start(open, paid+v.x.Cost[at][1+s])
		}
		for c, who := range v.x.Customers {
			if open.Has(c) && v.mays[s].Has(c) && who.Load <= min(room, left[s]) {
				left[s] -= who.Load
				to := v.x.Customer(c)
				was := used
				ride(s, to, room-who.Load, open.Without(c), paid+v.x.Cost[at][to])
				used = was
				left[s] += who.Load
			}
		}
	}
	start(first(len(v.x.Customers)), 0)
	return best
}

// hauled: what the cheapest trucks cost that come to one of two satellites at most, or both, each as it is used, and have room for all.
func (v told) hauled(used set.Set) int64 {
	tours := [][]int{{0}}
	if len(v.x.Sats) > 1 {
		tours = [][]int{{0}, {1}, {0, 1}, {1, 0}}
	}
	best := int64(api.Far)
	var next func(from int, room, paid int64, come set.Set)
	next = func(from int, room, paid int64, come set.Set) {
		if room <= 0 && used.Less(come) == 0 {
			best = min(best, paid)
			return
		}
		// When there is room for all, one more to each satellite is as many as are needed.
		if room <= -2*v.x.Trucks.Room {
			return
		}
		for i, tour := range tours[from:] {
			cost, at, there := int64(0), 0, come
			for _, s := range tour {
				cost, at, there = cost+v.x.Cost[at][1+s], 1+s, there.With(s)
			}
			// As many of the first kind, then of the next one, so that none is looked at twice.
			next(from+i, room-v.x.Trucks.Room, paid+cost+v.x.Cost[at][0], there)
		}
	}
	next(0, v.x.Load(), 0, 0)
	return best
}

// spare: a list with room behind it, in which the rest stands.
func spare[T any](l []T, rest ...T) []T {
	return append(slices.Clone(l), rest...)[:len(l)]
}

// kept: is what stands behind a list still this?
func kept[T comparable](l []T, rest ...T) bool {
	return slices.Equal(l[len(l):len(l)+len(rest)], rest)
}

// TestLeavesWhatItGets: R5: neither an instance's lists, nor a bound's, nor their spare room are changed.
func TestLeavesWhatItGets(t *testing.T) {
	r := rand.New(rand.NewSource(7))
	x := open(r, 3, 7).x
	was := x.Clone()
	x.Sats, x.Customers = spare(x.Sats, inst.Sat{Room: 5}), spare(x.Customers, inst.Customer{Load: 5})
	for _, at := range []*[][]int64{&x.Cost, &x.Time} {
		for i, row := range *at {
			(*at)[i] = spare(row, 5, 6)
		}
		*at = spare(*at, []int64{7})
	}
	b := found(t, "spare room", x)
	if want := found(t, "without", was); b.All != want.All {
		t.Errorf("with spare room it is %v, not %v", b, want)
	}
	weighs(t, "spare room", x, 127, 1, 2, weight(was, 127, 1, 2))
	own := copied(b)
	own.From, own.Highs, own.Lows = spare(own.From, 8, 9), spare(own.Highs, 8, 9), spare(own.Lows, 8, 9)
	right(t, "spare room", x, own, true)
	if !slices.Equal(own.From, b.From) || !slices.Equal(own.Highs, b.Highs) || !slices.Equal(own.Lows, b.Lows) {
		t.Errorf("of %v it leaves %v", b, own)
	}
	if !kept(own.From, 8, 9) || !kept(own.Highs, 8, 9) || !kept(own.Lows, 8, 9) {
		t.Errorf("what is behind a bound's lists is changed")
	}
	if !inst.Same(x, was) {
		t.Errorf("it leaves %v, not %v", x, was)
	}
	if !kept(x.Sats, inst.Sat{Room: 5}) || !kept(x.Customers, inst.Customer{Load: 5}) {
		t.Errorf("what is behind satellites or customers is changed")
	}
	for _, rows := range [][][]int64{x.Cost, x.Time} {
		n := len(rows)
		if l := rows[:n+1][n]; len(l) != 1 || l[0] != 7 {
			t.Errorf("what is behind the rows is changed")
		}
		for _, row := range rows {
			if !kept(row, 5, 6) {
				t.Errorf("what is behind a row is changed")
			}
		}
	}
}

// TestSameAgain: R5, R6: each answer is new memory, and the same again; no two lists of it share any.
func TestSameAgain(t *testing.T) {
	r := rand.New(rand.NewSource(8))
	for range 50 {
		x := open(r, 1+r.Intn(4), 1+r.Intn(7)).x
		b := found(t, "once", x)
		was := copied(b)
		for _, l := range [][]int64{b.Highs, b.Lows} {
			for i := range l[:cap(l)] {
				l[:cap(l)][i] = -7
			}
			if &l[0] == &b.Highs[0] && !slices.Equal(b.Lows, was.Lows) {
				t.Errorf("Highs and Lows share memory")
			}
		}
		for i := range b.From[:cap(b.From)] {
			b.From[:cap(b.From)][i] = -7
		}
		again := found(t, "again", x)
		if !slices.Equal(again.From, was.From) || !slices.Equal(again.Highs, was.Highs) || !slices.Equal(again.Lows, was.Lows) || again.All != was.All {
			t.Errorf("again it is %v, not %v", again, was)
		}
	}
}
