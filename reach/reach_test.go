package reach_test

import (
	"fmt"
	"math"
	"math/rand"
	"slices"
	"testing"

	"wharfage/api"
	"wharfage/inst"
	"wharfage/reach"
	"wharfage/set"
)

const (
	lowest, most = math.MinInt64, math.MaxInt64
	great        = 1000000000 // The greatest number of an instance.
	sats         = 12         // The most satellites.
	customers    = 48         // The most customers.
)

// square: a matrix of n rows of n numbers: from a node to itself 0, else what is told.
func square(n int, next func(i, k int) int64) [][]int64 {
	l := make([][]int64, n)
	for i := range l {
		l[i] = make([]int64, n)
		for k := range l[i] {
			if i != k {
				l[i][k] = next(i, k)
			}
		}
	}
	return l
}

// only: one and the same for all.
func only(n int64) func(i, k int) int64 { return func(_, _ int) int64 { return n } }

// of: an instance of so many satellites and customers, all ways of which take so long: there is room and time enough for all.
func of(s, c int, time func(i, k int) int64) inst.Instance {
	return inst.Instance{
		End: great, Trucks: inst.Fleet{Many: 2, Room: 900}, Bikes: inst.Fleet{Many: 3, Room: 500},
		Sats: slices.Repeat([]inst.Sat{{Room: 500}}, s), Customers: slices.Repeat([]inst.Customer{{Load: 5, Close: great}}, c),
		Cost: square(1+s+c, only(1)), Time: square(1+s+c, time),
	}
}

// leg is how long one way takes.
type leg struct {
	from, to int
	time     int64
}

// by: an instance all ways of which take 100, but these.
func by(s, c int, l ...leg) inst.Instance {
	x := of(s, c, only(100))
	for _, a := range l {
		x.Time[a.from][a.to] = a.time
	}
	return x
}

// one: the document's example.
func one() inst.Instance {
	x := of(1, 1, only(4))
	x.End, x.Trucks, x.Bikes = 40, inst.Fleet{Many: 1, Room: 9}, inst.Fleet{Many: 1, Room: 9}
	x.Sats[0], x.Customers[0] = inst.Sat{Room: 9, Hold: 3}, inst.Customer{Load: 5, Open: 9, Close: 20, Stay: 1}
	x.Cost = square(3, only(2))
	return x
}

// nodes: those of all satellites, or of all customers.
func nodes(first, many int) []int {
	l := make([]int, many)
	for i := range l {
		l[i] = first + i
	}
	return l
}

// stay: how long one stays at a node ahead of going on: at customers alone.
func stay(x inst.Instance, node int) int64 {
	if c := node - 1 - len(x.Sats); c >= 0 {
		return x.Customers[c].Stay
	}
	return 0
}

// walked: how long the shortest way takes, of all that there are by some other nodes, each once at most; who goes on from a node has stayed there.
func walked(x inst.Instance, from, to int, others []int) int64 {
	if from == to {
		return 0
	}
	best := stay(x, from) + x.Time[from][to]
	for i, by := range others {
		if by == from || by == to {
			continue
		}
		rest := slices.Concat(others[:i], others[i+1:])
		best = min(best, stay(x, from)+x.Time[from][by]+walked(x, by, to, rest))
	}
	return best
}

// closed: the same for all nodes of a list, by adding them as those by which one comes, one by one.
func closed(x inst.Instance, among []int) func(from, to int) int64 {
	n := x.Nodes()
	far := square(n, func(i, k int) int64 { return stay(x, i) + x.Time[i][k] })
	for _, by := range among {
		for _, i := range among {
			for _, k := range among {
				if i != k {
					far[i][k] = min(far[i][k], far[i][by]+far[by][k])
				}
			}
		}
	}
	return func(from, to int) int64 { return far[from][to] }
}

// told is all that this layer tells of an instance.
type told struct {
	ready     []int64
	out, back [][]int64
	mays      []set.Set
}

// words: what P14.1 and P14.2 ask. What ways there are is told by another function: the shortest of them among some nodes.
func words(x inst.Instance, shortest func(among []int) func(from, to int) int64) told {
	ns, nc := len(x.Sats), len(x.Customers)
	t := told{ready: make([]int64, ns), out: make([][]int64, ns), back: make([][]int64, ns), mays: make([]set.Set, ns)}
	byTruck := shortest(nodes(0, 1+ns))
	for s := range ns {
		t.ready[s] = byTruck(0, 1+s) + x.Sats[s].Hold
		byBike := shortest(append(nodes(1+ns, nc), 1+s))
		for c, who := range x.Customers {
			out, back := byBike(1+s, 1+ns+c), byBike(1+ns+c, 1+s)
			t.out[s], t.back[s] = append(t.out[s], out), append(t.back[s], back)
			at := who.Open
			if at < t.ready[s]+out {
				at = t.ready[s] + out
			}
			if who.Load > x.Sats[s].Room || who.Load > x.Bikes.Room || at > who.Close || at+back > x.End {
				continue
			}
			t.mays[s] |= 1 << c
		}
	}
	return t
}

// eachWay: the shortest ways by going all of them.
func eachWay(x inst.Instance) func(among []int) func(from, to int) int64 {
	return func(among []int) func(from, to int) int64 {
		return func(from, to int) int64 { return walked(x, from, to, among) }
	}
}

// oneByOne: the shortest ways, node by node.
func oneByOne(x inst.Instance) func(among []int) func(from, to int) int64 {
	return func(among []int) func(from, to int) int64 { return closed(x, among) }
}

// all: what this layer tells of an instance.
func all(x inst.Instance) told {
	t := told{ready: reach.Ready(x), mays: reach.Mays(x)}
	for s := range x.Sats {
		t.out, t.back = append(t.out, reach.Out(x, s)), append(t.back, reach.Back(x, s))
	}
	return t
}

// hold: all that is told must be that.
func hold(t *testing.T, what string, x inst.Instance, want told) {
	t.Helper()
	if e := x.Check(); e != api.OK {
		t.Fatalf("%s: Check is %d", what, e)
	}
	l := all(x)
	if !slices.Equal(l.ready, want.ready) {
		t.Errorf("%s: Ready of %.500v is %v, not %v", what, x, l.ready, want.ready)
	}
	for s := range x.Sats {
		if !slices.Equal(l.out[s], want.out[s]) {
			t.Errorf("%s: Out of %.500v, %d is %v, not %v", what, x, s, l.out[s], want.out[s])
		}
		if !slices.Equal(l.back[s], want.back[s]) {
			t.Errorf("%s: Back of %.500v, %d is %v, not %v", what, x, s, l.back[s], want.back[s])
		}
	}
	if !slices.Equal(l.mays, want.mays) {
		t.Errorf("%s: Mays of %.500v is %v, not %v", what, x, l.mays, want.mays)
	}
}

// list: what was told must be that.
func list(t *testing.T, what string, l []int64, want ...int64) {
	t.Helper()
	if !slices.Equal(l, want) {
		t.Errorf("%s is %v, not %v", what, l, want)
	}
}

// may: Mays must be these.
func may(t *testing.T, what string, x inst.Instance, want ...set.Set) {
	t.Helper()
	if l := reach.Mays(x); !slices.Equal(l, want) {
		t.Errorf("%s: Mays is %v, not %v", what, l, want)
	}
	if e := x.Check(); e != api.OK {
		t.Errorf("%s: Check is %d", what, e)
	}
}

func TestExamples(t *testing.T) {
	x := one()
	list(t, "Ready", reach.Ready(x), 7)
	list(t, "Out", reach.Out(x, 0), 4)
	list(t, "Back", reach.Back(x, 0), 5)
	may(t, "the document's", x, set.Of(0))
	hold(t, "the document's", x, words(x, eachWay(x)))
	hold(t, "the document's", x, words(x, oneByOne(x)))
}

// TestReady: P14.1: by other satellites or not, by no customer, in the way's direction, and with its own Hold alone.
func TestReady(t *testing.T) {
	for _, c := range []struct {
		what string
		x    inst.Instance
		want []int64
	}{
		{"straight on", by(2, 1, leg{0, 1, 7}, leg{0, 2, 9}), []int64{7, 9}},
		{"by another one", by(2, 1, leg{0, 1, 7}, leg{1, 2, 8}), []int64{7, 15}},
		{"by a later one", by(2, 1, leg{0, 2, 7}, leg{2, 1, 8}), []int64{15, 7}},
		{"by several ones", by(4, 1, leg{0, 3, 1}, leg{3, 1, 2}, leg{1, 4, 3}, leg{4, 2, 4}), []int64{3, 10, 1, 6}},
		{"as long by another one", by(2, 1, leg{0, 1, 60}, leg{1, 2, 40}), []int64{60, 100}},
		{"a bit shorter by another one", by(2, 1, leg{0, 1, 60}, leg{1, 2, 39}), []int64{60, 99}},
		{"a bit longer by another one", by(2, 1, leg{0, 1, 60}, leg{1, 2, 41}), []int64{60, 100}},
		{"the other way round", by(2, 1, leg{1, 0, 7}, leg{2, 0, 9}, leg{2, 1, 1}), []int64{100, 100}},
		{"by a customer", by(1, 1, leg{0, 2, 1}, leg{2, 1, 1}), []int64{100}},
		{"by a customer to another satellite", by(2, 1, leg{0, 1, 50}, leg{1, 3, 1}, leg{3, 2, 1}), []int64{50, 100}},
		{"no time at all", of(3, 2, only(0)), []int64{0, 0, 0}},
	} {
		list(t, c.what+": Ready", reach.Ready(c.x), c.want...)
		// Its own Hold comes behind, whatever is held elsewhere: who only comes by goes on at once.
		for s := range c.x.Sats {
			c.x.Sats[s].Hold = int64(1000 * (s + 1))
			c.want[s] += c.x.Sats[s].Hold
		}
		list(t, c.what+": with Holds Ready", reach.Ready(c.x), c.want...)
	}
}

// TestOutAndBack: P14.1: by customers alone, in the way's direction, with the Stays of those from which it goes on.
func TestOutAndBack(t *testing.T) {
	// Of two satellites (nodes 1, 2) and three customers (3 to 5), that stay 10, 20, 30.
	for _, c := range []struct {
		what      string
		legs      []leg
		out, back []int64
	}{
		{"straight on", nil, []int64{100, 100, 100}, []int64{110, 120, 130}},
		{"each its way", []leg{{1, 3, 1}, {1, 4, 2}, {1, 5, 3}, {3, 1, 4}, {4, 1, 5}, {5, 1, 6}}, []int64{1, 2, 3}, []int64{14, 25, 36}},
		{"out by another one", []leg{{1, 3, 1}, {3, 4, 2}}, []int64{1, 13, 100}, []int64{110, 120, 130}},
		{"back by another one", []leg{{4, 3, 1}, {3, 1, 2}}, []int64{100, 100, 100}, []int64{12, 33, 130}},
		{"out by two", []leg{{1, 5, 1}, {5, 4, 2}, {4, 3, 3}}, []int64{56, 33, 1}, []int64{110, 120, 130}},
		{"back by two", []leg{{3, 4, 1}, {4, 5, 2}, {5, 1, 3}}, []int64{100, 100, 100}, []int64{66, 55, 33}},
		{"as long by another one", []leg{{1, 3, 60}, {3, 4, 30}}, []int64{60, 100, 100}, []int64{110, 120, 130}},
		{"a bit shorter by another one", []leg{{1, 3, 60}, {3, 4, 29}}, []int64{60, 99, 100}, []int64{110, 120, 130}},
		{"shorter, but for the Stay", []leg{{1, 3, 60}, {3, 4, 31}}, []int64{60, 100, 100}, []int64{110, 120, 130}},
		{"a bit shorter back", []leg{{5, 3, 40}, {3, 1, 49}}, []int64{100, 100, 100}, []int64{59, 120, 129}},
		{"shorter back, but for the Stay", []leg{{5, 3, 40}, {3, 1, 51}}, []int64{100, 100, 100}, []int64{61, 120, 130}},
		{"by the depot", []leg{{1, 0, 1}, {0, 3, 1}, {3, 0, 1}, {0, 1, 1}}, []int64{100, 100, 100}, []int64{110, 120, 130}},
		{"by another satellite", []leg{{1, 2, 1}, {2, 3, 1}, {3, 2, 1}, {2, 1, 1}}, []int64{100, 100, 100}, []int64{110, 120, 130}},
	} {
		x := by(2, 3, c.legs...)
		x.Customers[0].Stay, x.Customers[1].Stay, x.Customers[2].Stay = 10, 20, 30
		list(t, c.what+": Out", reach.Out(x, 0), c.out...)
		list(t, c.what+": Back", reach.Back(x, 0), c.back...)
	}
}

// TestEachSatellite: each has its own ways.
func TestEachSatellite(t *testing.T) {
	x := by(3, 2, leg{1, 4, 1}, leg{2, 4, 2}, leg{3, 4, 3}, leg{1, 5, 11}, leg{2, 5, 12}, leg{3, 5, 13}, leg{4, 1, 21}, leg{4, 2, 22}, leg{4, 3, 23}, leg{5, 1, 31}, leg{5, 2, 32}, leg{5, 3, 33})
	for s := range 3 {
		n := int64(s)
		list(t, fmt.Sprint("Out of ", s), reach.Out(x, s), 1+n, 11+n)
		list(t, fmt.Sprint("Back of ", s), reach.Back(x, s), 21+n, 31+n)
	}
}

// TestMays: P14.2: each thing that it asks, up to its edge and a bit beyond.
func TestMays(t *testing.T) {
	// Ready is 7, Out 4, so that it begins at 11; Back is 5.
	for _, c := range []struct {
		what   string
		change func(x *inst.Instance, n int64)
		last   int64 // The last number by which the customer may be served.
		up     bool  // It may be by the greater ones, too, not by the lesser ones.
	}{
		{"Load by the satellite's Room", func(x *inst.Instance, n int64) { x.Customers[0].Load, x.Bikes.Room = n, 100 }, 9, false},
		{"Load by the bikes' Room", func(x *inst.Instance, n int64) { x.Customers[0].Load, x.Sats[0].Room = n, 100 }, 9, false},
		{"the satellite's Room", func(x *inst.Instance, n int64) { x.Sats[0].Room = n }, 5, true},
		{"the bikes' Room", func(x *inst.Instance, n int64) { x.Bikes.Room = n }, 5, true},
		{"Close", func(x *inst.Instance, n int64) { x.Customers[0].Open, x.Customers[0].Close = 0, n }, 11, true},
		{"End, where it waits for nobody", func(x *inst.Instance, n int64) { x.End = n }, 16, true},
		{"End, where it waits for Open", func(x *inst.Instance, n int64) { x.Customers[0].Open, x.End = 15, n }, 20, true},
		{"Open, by End", func(x *inst.Instance, n int64) { x.Customers[0].Open, x.Customers[0].Close, x.End = n, great, 30 }, 25, false},
		{"the way to the satellite, by Close", func(x *inst.Instance, n int64) { x.Time[0][1] = n }, 13, false},
		{"Hold, by Close", func(x *inst.Instance, n int64) { x.Sats[0].Hold = n }, 12, false},
		{"the way out, by Close", func(x *inst.Instance, n int64) { x.Time[1][2] = n }, 13, false},
		{"Hold, by End", func(x *inst.Instance, n int64) { x.Sats[0].Hold, x.Customers[0].Close = n, great }, 27, false},
		{"Stay", func(x *inst.Instance, n int64) { x.Customers[0].Stay = n }, 25, false},
		{"the way back", func(x *inst.Instance, n int64) { x.Time[2][1] = n }, 28, false},
	} {
		for _, d := range []int64{-1, 0, 1} {
			x := one()
			c.change(&x, c.last+d)
			want := set.Of(0)
			if c.up && d < 0 || !c.up && d > 0 {
				want = 0
			}
			may(t, fmt.Sprint(c.what, " ", c.last+d), x, want)
		}
	}
}

// TestMaysOfSome: some customers of some satellites: each by itself.
func TestMaysOfSome(t *testing.T) {
	x := of(3, 4, only(10))
	may(t, "all of all", x, 15, 15, 15)
	x.Customers[1].Load = 500
	may(t, "as great as can be", x, 15, 15, 15)
	x.Sats[1].Room = 499
	may(t, "too great for one satellite", x, 15, 13, 15)
	x.Sats[1].Room, x.Bikes.Room = 500, 499
	may(t, "too great for a bike", x, 13, 13, 13)
	x.Customers[3].Close = 20
	x.Sats[0].Hold = 1
	may(t, "too late from one satellite", x, 5, 13, 13)
	x.Time[1][3] = 11
	may(t, "ways between satellites are nothing to bikes", x, 5, 13, 13)
	x.Time[2][6] = 4
	x.Time[6][7] = 5
	may(t, "sooner by another customer", x, 5, 13, 13)
	x.Time[3][7], x.Time[3][6], x.Time[6][7] = 11, 4, 7
	may(t, "too late straight on, and by another customer", x, 5, 13, 5)
	x.Time[6][7] = 6
	may(t, "soon enough by another customer", x, 5, 13, 13)
	x.Customers[2].Stay = 1
	may(t, "too late by another customer, by its Stay", x, 5, 13, 5)
	// All Loads together may well be too much.
	x = of(1, 4, only(10))
	x.Sats[0].Room, x.Bikes.Room = 5, 5
	may(t, "each by itself", x, 15)
}

// TestMaysByOthers: who is only on the way to another one needn't be served there, as far as Mays goes.
func TestMaysByOthers(t *testing.T) {
	x := by(1, 2, leg{0, 1, 0}, leg{1, 2, 5}, leg{2, 3, 5}, leg{3, 2, 5}, leg{2, 1, 5})
	x.End, x.Customers[1].Close = 20, 10
	may(t, "both", x, 3)
	x.Customers[0].Load = 501
	may(t, "too great a Load on the way", x, 2)
	x.Customers[0] = inst.Customer{Load: 5, Open: 0, Close: 4}
	may(t, "closed on the way", x, 2)
	x.Customers[0] = inst.Customer{Load: 5, Open: 500, Close: 500}
	may(t, "not open on the way", x, 2)
}

// TestNothingElse: what the words don't name changes nothing.
func TestNothingElse(t *testing.T) {
	r := rand.New(rand.NewSource(1))
	for range 200 {
		x := drawn(r, 1+r.Intn(3), 1+r.Intn(4))
		want := all(x)
		x.Cost = square(x.Nodes(), func(_, _ int) int64 { return r.Int63n(great) })
		x.Trucks.Many, x.Trucks.Room, x.Bikes.Many = 1+r.Intn(60), r.Int63n(great), 1+r.Intn(60)
		// To the depot trucks alone go back, and how long that takes isn't asked; nor are ways from it to customers, which nobody goes.
		for i := 1; i < x.Nodes(); i++ {
			x.Time[i][0] = r.Int63n(great)
			if i > len(x.Sats) {
				x.Time[0][i] = r.Int63n(great)
			}
		}
		hold(t, "all else", x, want)
	}
}

// drawn: an instance of so many satellites and customers, so that some may be served, and some not.
func drawn(r *rand.Rand, s, c int) inst.Instance {
	time := 1 + r.Int63n(40)
	x := of(s, c, func(_, _ int) int64 { return r.Int63n(time) })
	x.End, x.Bikes.Room = 20+r.Int63n(60), 5+r.Int63n(10)
	for i := range x.Sats {
		x.Sats[i] = inst.Sat{Room: 5 + r.Int63n(10), Hold: r.Int63n(6)}
	}
	for i := range x.Customers {
		who := inst.Customer{Load: 1 + r.Int63n(12), Open: r.Int63n(30), Stay: r.Int63n(9)}
		who.Close = who.Open + r.Int63n(40)
		x.Customers[i] = who
	}
	return x
}

// TestAtRandom: little ones, by all ways that there are.
func TestAtRandom(t *testing.T) {
	r := rand.New(rand.NewSource(2))
	some, many := 0, 0
	for range 3000 {
		x := drawn(r, 1+r.Intn(3), 1+r.Intn(4))
		want := words(x, eachWay(x))
		hold(t, "at random", x, want)
		for _, l := range want.mays {
			some, many = some+l.Len(), many+len(x.Customers)
		}
	}
	if some*4 < many || some*4 > 3*many {
		t.Errorf("%d of %d may be served: too few, or too many", some, many)
	}
}

// TestEachSize: each number of satellites and of customers that may be, node by node.
func TestEachSize(t *testing.T) {
	r := rand.New(rand.NewSource(3))
	for s := 1; s <= sats; s++ {
		for c := 1; c <= customers; c += 1 + r.Intn(9) {
			x := drawn(r, s, c)
			hold(t, fmt.Sprint(s, " satellites and ", c, " customers"), x, words(x, oneByOne(x)))
		}
	}
	for range 5 {
		x := drawn(r, sats, customers)
		hold(t, "a great one", x, words(x, oneByOne(x)))
	}
}

// TestLongWays: ways by all customers, and by all satellites, one by one.
func TestLongWays(t *testing.T) {
	x := of(sats, customers, func(i, k int) int64 {
		if k == i+1 || i == sats+customers && k <= sats {
			return 1
		}
		return great
	})
	for c := range x.Customers {
		x.Customers[c].Stay = 2
	}
	hold(t, "one by one", x, words(x, oneByOne(x)))
	list(t, "Ready", reach.Ready(x), 1, 2, 3, 4, 5, 6, 7, 8, 9, 10, 11, 12)
	out, back := reach.Out(x, sats-1), reach.Back(x, 0)
	for c := range customers {
		if n := int64(1 + 3*c); out[c] != n {
			t.Errorf("Out of %d is %d, not %d", c, out[c], n)
		}
		if n := int64(3 * (customers - c)); back[c] != n {
			t.Errorf("Back of %d is %d, not %d", c, back[c], n)
		}
	}
}

// TestGreatNumbers: all numbers as great as may be: what is added stays right beyond 32 bits.
func TestGreatNumbers(t *testing.T) {
	x := of(sats, customers, only(great))
	for s := range x.Sats {
		x.Sats[s] = inst.Sat{Room: great, Hold: great}
	}
	for c := range x.Customers {
		x.Customers[c] = inst.Customer{Load: great, Open: great, Close: great, Stay: great}
	}
	x.Bikes.Room = great
	for s := range sats {
		list(t, "Out", reach.Out(x, s), slices.Repeat([]int64{great}, customers)...)
		list(t, "Back", reach.Back(x, s), slices.Repeat([]int64{2 * great}, customers)...)
	}
	list(t, "Ready", reach.Ready(x), slices.Repeat([]int64{2 * great}, sats)...)
	may(t, "all too late", x, slices.Repeat([]set.Set{0}, sats)...)
	// As late as may be, but no later.
	x = of(sats, customers, only(0))
	for c := range x.Customers {
		x.Customers[c] = inst.Customer{Load: great, Open: great, Close: great}
	}
	for s := range x.Sats {
		x.Sats[s] = inst.Sat{Room: great, Hold: great}
	}
	x.Bikes.Room = great
	may(t, "all just in time", x, slices.Repeat([]set.Set{1<<customers - 1}, sats)...)
	x.Customers[47].Stay = 1
	may(t, "one back too late", x, slices.Repeat([]set.Set{1<<47 - 1}, sats)...)
	x.Time[12][60], x.Time[60][12], x.Customers[47].Stay = great, 1, 0
	may(t, "one by others alone", x, slices.Repeat([]set.Set{1<<customers - 1}, sats)...)
}

// none: nothing may be told of that.
func none(t *testing.T, what string, x inst.Instance) {
	t.Helper()
	if x.Check() == api.OK {
		t.Errorf("%s: Check has no error", what)
	}
	if l := reach.Ready(x); len(l) != 0 {
		t.Errorf("%s: Ready is %v", what, l)
	}
	if l := reach.Mays(x); len(l) != 0 {
		t.Errorf("%s: Mays is %v", what, l)
	}
	for _, s := range []int{0, 1, 2, -1, lowest, most} {
		if l := reach.Out(x, s); len(l) != 0 {
			t.Errorf("%s: Out of %d is %v", what, s, l)
		}
		if l := reach.Back(x, s); len(l) != 0 {
			t.Errorf("%s: Back of %d is %v", what, s, l)
		}
	}
}

// TestWrong: of an instance that may not be there is none, whatever is wrong with it.
func TestWrong(t *testing.T) {
	none(t, "nothing", inst.Instance{})
	for _, c := range []struct {
		what   string
		change func(x *inst.Instance)
	}{
		{"End below 0", func(x *inst.Instance) { x.End = -1 }},
		{"End too great", func(x *inst.Instance) { x.End = great + 1 }},
		{"no truck", func(x *inst.Instance) { x.Trucks.Many = 0 }},
		{"too many bikes", func(x *inst.Instance) { x.Bikes.Many = 61 }},
		{"bikes' Room below 0", func(x *inst.Instance) { x.Bikes.Room = lowest }},
		{"no satellite", func(x *inst.Instance) { x.Sats = nil }},
		{"a satellite less", func(x *inst.Instance) { x.Sats = x.Sats[:1] }},
		{"too many satellites", func(x *inst.Instance) { *x = of(sats+1, 1, only(1)) }},
		{"Hold below 0", func(x *inst.Instance) { x.Sats[1].Hold = -1 }},
		{"a satellite's Room too great", func(x *inst.Instance) { x.Sats[0].Room = most }},
		{"no customer", func(x *inst.Instance) { x.Customers = nil }},
		{"a customer more", func(x *inst.Instance) { x.Customers = append(x.Customers, x.Customers[0]) }},
		{"too many customers", func(x *inst.Instance) { *x = of(1, customers+1, only(1)) }},
		{"more customers than a set holds", func(x *inst.Instance) { *x = of(1, 100, only(1)) }},
		{"Load 0", func(x *inst.Instance) { x.Customers[0].Load = 0 }},
		{"Close ahead of Open", func(x *inst.Instance) { x.Customers[0].Open, x.Customers[0].Close = 5, 4 }},
		{"Stay too great", func(x *inst.Instance) { x.Customers[2].Stay = most }},
		{"no Cost", func(x *inst.Instance) { x.Cost = nil }},
		{"Cost below 0", func(x *inst.Instance) { x.Cost[1][2] = -1 }},
		{"no Time", func(x *inst.Instance) { x.Time = nil }},
		{"a row of Time less", func(x *inst.Instance) { x.Time = x.Time[1:] }},
		{"a shorter row of Time", func(x *inst.Instance) { x.Time[5] = x.Time[5][1:] }},
		{"Time below 0", func(x *inst.Instance) { x.Time[1][2] = -1 }},
		{"Time below 0 by far", func(x *inst.Instance) { x.Time[1][3] = lowest }},
		{"Time too great", func(x *inst.Instance) { x.Time[0][1] = most }},
		{"Time from a node to itself", func(x *inst.Instance) { x.Time[3][3] = 1 }},
	} {
		x := of(2, 3, only(1))
		c.change(&x)
		none(t, c.what, x)
	}
}

// TestNoSatellite: of a satellite that isn't there there is no way out, and none back.
func TestNoSatellite(t *testing.T) {
	for _, x := range []inst.Instance{one(), of(2, 3, only(1)), of(sats, customers, only(1))} {
		n := len(x.Sats)
		for _, s := range []int{-1, -2, n, n + 1, n + len(x.Customers), 64, 1 << 32, -1 << 32, lowest, most, most - 1} {
			if l := reach.Out(x, s); len(l) != 0 {
				t.Errorf("of %d satellites Out of %d is %v", n, s, l)
			}
			if l := reach.Back(x, s); len(l) != 0 {
				t.Errorf("of %d satellites Back of %d is %v", n, s, l)
			}
		}
		if len(reach.Out(x, n-1)) != len(x.Customers) || len(reach.Back(x, n-1)) != len(x.Customers) {
			t.Errorf("of %d satellites the last one has no ways", n)
		}
	}
}

// TestServed: what P14.3 asks of Mays: whoever is served on a round that can be done is among them.
func TestServed(t *testing.T) {
	r := rand.New(rand.NewSource(4))
	served := 0
	for range 1500 {
		x := drawn(r, 1+r.Intn(2), 1+r.Intn(4))
		mays := reach.Mays(x)
		for s := range x.Sats {
			soonest := walked(x, 0, 1+s, nodes(1, len(x.Sats))) + x.Sats[s].Hold
			rounds(x, s, soonest, func(stops []int) {
				for _, c := range stops {
					if served++; !mays[s].Has(c) {
						t.Errorf("of %v the satellite %d serves %v, but its Mays is %v", x, s, stops, mays[s].All())
					}
				}
			})
		}
	}
	if served < 1000 {
		t.Errorf("only %d are served", served)
	}
}

// rounds: all rounds from a satellite that goes out then which are in time, and have room.
func rounds(x inst.Instance, s int, out int64, tell func(stops []int)) {
	first := 1 + len(x.Sats)
	var on func(at int, begun, load int64, stops []int)
	on = func(at int, begun, load int64, stops []int) {
		if len(stops) > 0 && begun+stay(x, at)+x.Time[at][1+s] <= x.End {
			tell(stops)
		}
		for c, who := range x.Customers {
			start := max(begun+stay(x, at)+x.Time[at][first+c], who.Open)
			all := load + who.Load
			if !slices.Contains(stops, c) && start <= min(who.Close, x.End) && all <= min(x.Bikes.Room, x.Sats[s].Room) {
				on(first+c, start, all, append(slices.Clone(stops), c))
			}
		}
	}
	on(1+s, out, 0, nil)
}

// spare: a list with room behind it, in which the rest stands.
func spare[T any](l []T, rest ...T) []T {
	return append(slices.Clone(l), rest...)[:len(l)]
}

// TestLeavesWhatItGets: R5: neither an instance's lists nor their spare room are changed.
func TestLeavesWhatItGets(t *testing.T) {
	x := drawn(rand.New(rand.NewSource(5)), 2, 3)
	was := x.Clone()
	x.Sats, x.Customers = spare(x.Sats, inst.Sat{Room: 5}), spare(x.Customers, inst.Customer{Load: 5})
	for _, at := range []*[][]int64{&x.Cost, &x.Time} {
		for i, row := range *at {
			(*at)[i] = spare(row, 5, 6)
		}
		*at = spare(*at, []int64{7})
	}
	hold(t, "spare room", x, words(was, eachWay(was)))
	if !inst.Same(x, was) {
		t.Errorf("it leaves %v, not %v", x, was)
	}
	if x.Sats[:3][2].Room != 5 || x.Customers[:4][3].Load != 5 {
		t.Errorf("what is behind satellites or customers is changed")
	}
	for _, rows := range [][][]int64{x.Cost, x.Time} {
		for _, row := range rows {
			if !slices.Equal(row[len(row):len(row)+2], []int64{5, 6}) {
				t.Errorf("what is behind a row is changed")
			}
		}
		if !slices.Equal(rows[:7][6], []int64{7}) {
			t.Errorf("what is behind the rows is changed")
		}
	}
}

// TestKeepsNothing: R5 and R6: what was told is new memory each time, and nothing that was told ahead of it matters.
func TestKeepsNothing(t *testing.T) {
	x := drawn(rand.New(rand.NewSource(6)), 3, 4)
	want := words(x, eachWay(x))
	for range 3 {
		hold(t, "again", x, want)
		l := all(x)
		for _, list := range append(slices.Concat(l.out, l.back), l.ready) {
			for i := range list[:cap(list)] {
				list[:cap(list)][i] = -7
			}
		}
		for s := range l.mays {
			l.mays[s] = 1 << 63
		}
		hold(t, "behind a change", x, want)
		none(t, "nothing", inst.Instance{})
		hold(t, "another one", one(), words(one(), eachWay(one())))
	}
	l := all(x)
	x.Time[0][1], x.Time[1][4], x.Customers[0].Stay, x.Sats[0].Hold = great, great, great, great
	if !slices.Equal(l.ready, want.ready) || !slices.Equal(l.out[0], want.out[0]) || !slices.Equal(l.back[0], want.back[0]) || !slices.Equal(l.mays, want.mays) {
		t.Errorf("told were %v, not %v", l, want)
	}
}
