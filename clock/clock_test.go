package clock_test

import (
	"fmt"
	"math"
	"math/big"
	"math/rand"
	"slices"
	"testing"

	"wharfage/api"
	"wharfage/block"
	"wharfage/bound"
	"wharfage/clock"
	"wharfage/inst"
	"wharfage/plan"
	"wharfage/reach"
)

const (
	lowest, most = math.MinInt64, math.MaxInt64
	great        = 1000000000 // The greatest number of an instance.
	fleet        = 60         // The most vehicles of a fleet.
	sats         = 12         // The most satellites.
	customers    = 48         // The most customers.
)

// square: a matrix of n rows of n numbers: from a node to itself 0, else what is told.
func square(n int, next func(i, k int) int64) [][]int64 {
	l := make([][]int64, n)
	for i := range l {
		l[i] = make([]int64, n)
		for k := range l[i] {
			if i != k {
				l[i][k] = next(i, k)
			}
		}
	}
	return l
}

// of: an instance of so many satellites and customers, each of whom gets 1. There is room for all, and as much time as may be; each way takes what is told, and costs 1.
func of(s, c int, time func(i, k int) int64) inst.Instance {
	return inst.Instance{
		End: great, Trucks: inst.Fleet{Many: fleet, Room: great}, Bikes: inst.Fleet{Many: fleet, Room: great},
		Sats: slices.Repeat([]inst.Sat{{Room: great}}, s), Customers: slices.Repeat([]inst.Customer{{Load: 1, Close: great}}, c),
		Cost: square(1+s+c, func(_, _ int) int64 { return 1 }), Time: square(1+s+c, time),
	}
}

// each: whatever the way, its own time: ten times the node that it begins with, the one that it ends with, and 1.
func each(i, k int) int64 { return int64(10*i + k + 1) }

// truck: one that stops at satellites, told by pairs: which, and what it leaves there.
func truck(l ...int64) plan.Truck {
	var t plan.Truck
	for i := 0; i+1 < len(l); i += 2 {
		t.Stops = append(t.Stops, plan.Stop{Sat: int(l[i]), Load: l[i+1]})
	}
	return t
}

// bike: one of a satellite, that goes to customers.
func bike(s int, stops ...int) plan.Bike { return plan.Bike{Sat: s, Stops: slices.Clone(stops)} }

// ride: when a bike goes out, begins, is back.
func ride(l ...int64) clock.Ride {
	last := len(l) - 1
	return clock.Ride{Out: l[0], Starts: slices.Clone(l[1:last]), Back: l[last]}
}

// whole: the document's example of all of it.
func whole() (inst.Instance, plan.Plan, clock.Times) {
	x := of(1, 1, func(_, _ int) int64 { return 4 })
	x.End, x.Trucks, x.Bikes = 40, inst.Fleet{Many: 1, Room: 9}, inst.Fleet{Many: 1, Room: 9}
	x.Sats[0], x.Customers[0] = inst.Sat{Room: 9, Hold: 3}, inst.Customer{Load: 5, Open: 9, Close: 20, Stay: 1}
	p := plan.Plan{Trucks: []plan.Truck{truck(0, 5)}, Bikes: []plan.Bike{bike(0, 0)}}
	return x, p, clock.Times{Trucks: [][]int64{{4}}, Bikes: []clock.Ride{ride(7, 11, 16)}}
}

// some: two trucks, that stop at two satellites, the one the other way round, three bikes, four customers, and the soonest times of all.
func some() (inst.Instance, plan.Plan, clock.Times) {
	x := of(3, 4, each)
	for s, hold := range []int64{5, 7, 9} {
		x.Sats[s].Hold = hold
	}
	for c, stay := range []int64{2, 3, 4, 6} {
		x.Customers[c].Stay = stay
	}
	x.Customers[3].Open = 60
	p := plan.Plan{
		Trucks: []plan.Truck{truck(0, 1, 1, 1), truck(2, 1, 0, 1)},
		Bikes:  []plan.Bike{bike(0, 1, 0), bike(1, 3), bike(2, 2)},
	}
	return x, p, clock.Times{
		Trucks: [][]int64{{2, 2 + 13}, {4, 4 + 32}},
		Bikes: []clock.Ride{
			ride(36+5, 41+16, 57+3+55, 115+2+42),
			ride(15+7, 60, 60+6+73),
			ride(4+9, 13+37, 50+4+64),
		},
	}
}

// slack: times of the same, each of which waits at least 3 more than it must; who comes last has to the end of all.
func slack() (inst.Instance, plan.Plan, clock.Times) {
	x, p, _ := some()
	return x, p, clock.Times{
		Trucks: [][]int64{{5, 23}, {9, 47}},
		Bikes:  []clock.Ride{ride(60, 80, 150, 200), ride(40, 75, 170), ride(25, 70, 150)},
	}
}

// clone: as one's own.
func clone(t clock.Times) clock.Times {
	t.Trucks, t.Bikes = slices.Clone(t.Trucks), slices.Clone(t.Bikes)
	for i, l := range t.Trucks {
		t.Trucks[i] = slices.Clone(l)
	}
	for i, r := range t.Bikes {
		t.Bikes[i].Starts = slices.Clone(r.Starts)
	}
	return t
}

// numbers: where each time stands.
func numbers(t clock.Times) []*int64 {
	var l []*int64
	for _, times := range t.Trucks {
		for i := range times {
			l = append(l, &times[i])
		}
	}
	for i := range t.Bikes {
		r := &t.Bikes[i]
		l = append(l, &r.Out)
		for k := range r.Starts {
			l = append(l, &r.Starts[k])
		}
		l = append(l, &r.Back)
	}
	return l
}

// after: is a time no sooner than some others, added, however great?
func after(at int64, l ...int64) bool {
	var sum big.Int
	for _, n := range l {
		sum.Add(&sum, big.NewInt(n))
	}
	return big.NewInt(at).Cmp(&sum) >= 0
}

// can: the words of "they can be so", of a plan that may be, and of as many times.
func can(x inst.Instance, p plan.Plan, t clock.Times) bool {
	for i, truck := range p.Trucks {
		at, node := int64(0), 0
		for k, s := range truck.Stops {
			come := t.Trucks[i][k]
			if !after(come, at, x.Time[node][1+s.Sat]) || come > x.End {
				return false
			}
			at, node = come, 1+s.Sat
		}
		if !after(x.End, at, x.Time[node][0]) {
			return false
		}
	}
	for i, b := range p.Bikes {
		r := t.Bikes[i]
		if r.Out < 0 || r.Out > x.End {
			return false
		}
		for k, truck := range p.Trucks {
			for n, s := range truck.Stops {
				if s.Sat == b.Sat && !after(r.Out, t.Trucks[k][n], x.Sats[b.Sat].Hold) {
					return false
				}
			}
		}
		at, node, stay := r.Out, 1+b.Sat, int64(0)
		for k, c := range b.Stops {
			who, to, start := x.Customers[c], 1+len(x.Sats)+c, r.Starts[k]
			if !after(start, at, stay, x.Time[node][to]) || start < who.Open || start > who.Close || start > x.End {
				return false
			}
			at, node, stay = start, to, who.Stay
		}
		if !after(r.Back, at, stay, x.Time[node][1+b.Sat]) || r.Back > x.End {
			return false
		}
	}
	return true
}

// asMany: are there as many times as the plan has things?
func asMany(p plan.Plan, t clock.Times) bool {
	if len(p.Trucks) != len(t.Trucks) || len(p.Bikes) != len(t.Bikes) {
		return false
	}
	for i := range p.Trucks {
		if len(p.Trucks[i].Stops) != len(t.Trucks[i]) {
			return false
		}
	}
	for i := range p.Bikes {
		if len(p.Bikes[i].Stops) != len(t.Bikes[i].Starts) {
			return false
		}
	}
	return true
}

// checked: the words of Check.
func checked(x inst.Instance, p plan.Plan, t clock.Times) api.Errno {
	switch {
	case plan.Check(x, p) != api.OK:
		return plan.Check(x, p)
	case !asMany(p, t):
		return api.ErrSize
	case !can(x, p, t):
		return api.ErrTime
	}
	return api.OK
}

// soonest: what is gone through one by one, as soon as can be, however late that is; of a plan that may be.
func soonest(x inst.Instance, p plan.Plan) clock.Times {
	var t clock.Times
	ready := make([]int64, len(x.Sats))
	for _, truck := range p.Trucks {
		var l []int64
		at, node := int64(0), 0
		for _, s := range truck.Stops {
			at += x.Time[node][1+s.Sat]
			node = 1 + s.Sat
			l = append(l, at)
			if ready[s.Sat] < at+x.Sats[s.Sat].Hold {
				ready[s.Sat] = at + x.Sats[s.Sat].Hold
			}
		}
		t.Trucks = append(t.Trucks, l)
	}
	for _, b := range p.Bikes {
		r := clock.Ride{Out: ready[b.Sat]}
		at, node := r.Out, 1+b.Sat
		for _, c := range b.Stops {
			who, to := x.Customers[c], 1+len(x.Sats)+c
			at += x.Time[node][to]
			if at < who.Open {
				at = who.Open
			}
			r.Starts = append(r.Starts, at)
			at, node = at+who.Stay, to
		}
		r.Back = at + x.Time[node][1+b.Sat]
		t.Bikes = append(t.Bikes, r)
	}
	return t
}

// check: Check, beside the words and beside what is told.
func check(t *testing.T, what string, x inst.Instance, p plan.Plan, times clock.Times, want api.Errno) {
	t.Helper()
	if code := clock.Check(x, p, times); code != want {
		t.Errorf("%s: Check of %v, %v is %d, not %d", what, p, times, code, want)
	}
	if code := checked(x, p, times); code != want {
		t.Errorf("%s: by the words %v, %v is %d, not %d", what, p, times, code, want)
	}
}

// equal: two times, told as texts: that leaves nothing out.
func equal(a, b clock.Times) bool { return fmt.Sprint(a) == fmt.Sprint(b) }

// early: Early must tell these times, and they can be so.
func early(t *testing.T, what string, x inst.Instance, p plan.Plan, want clock.Times) {
	t.Helper()
	times, code := clock.Early(x, p)
	if code != api.OK || !equal(times, want) {
		t.Errorf("%s: Early of %v is %v, %d, not %v", what, p, times, code, want)
	}
	if !clock.Same(times, want) {
		t.Errorf("%s: Early of %v isn't the Same as %v", what, p, want)
	}
	check(t, what, x, p, want, api.OK)
}

// none: Early must tell that error, and no times.
func none(t *testing.T, what string, x inst.Instance, p plan.Plan, want api.Errno) {
	t.Helper()
	times, code := clock.Early(x, p)
	if code != want || times.Trucks != nil || times.Bikes != nil {
		t.Errorf("%s: Early of %v is %v, %d, not %d", what, p, times, code, want)
	}
}

// asSoon: Early, beside what is gone through one by one; the times that it tells, and its error.
func asSoon(t *testing.T, what string, x inst.Instance, p plan.Plan) (clock.Times, api.Errno) {
	t.Helper()
	want := soonest(x, p)
	if !can(x, p, want) {
		none(t, what, x, p, api.ErrTime)
		check(t, what, x, p, want, api.ErrTime)
		return clock.Times{}, api.ErrTime
	}
	early(t, what, x, p, want)
	return want, api.OK
}

func TestExamples(t *testing.T) {
	x, p, times := whole()
	early(t, "the document's", x, p, times)
	x.Time[1][2], x.Time[2][1] = 1, 1
	early(t, "the chapter's", x, p, clock.Times{Trucks: [][]int64{{4}}, Bikes: []clock.Ride{ride(7, 9, 11)}})
	x, p, times = some()
	early(t, "two trucks, three bikes", x, p, times)
	x, p, times = slack()
	check(t, "later ones", x, p, times, api.OK)
}

// TestEarlyTrucks: P18.2: trucks go their ways, stop by stop, wait for nothing, and leave each at once.
func TestEarlyTrucks(t *testing.T) {
	for _, c := range []struct {
		what string
		l    []plan.Truck
		come [][]int64
		out  []int64 // When bikes go out of the satellites, with Holds 100, 200 and 300.
	}{
		{"one for all", []plan.Truck{truck(0, 2, 1, 2, 2, 2)}, [][]int64{{2, 15, 39}}, []int64{102, 215, 339}},
		{"the other way round", []plan.Truck{truck(2, 2, 1, 2, 0, 2)}, [][]int64{{4, 37, 59}}, []int64{159, 237, 304}},
		{"one each", []plan.Truck{truck(1, 2), truck(2, 2), truck(0, 2)}, [][]int64{{3}, {4}, {2}}, []int64{102, 203, 304}},
		{"two for one", []plan.Truck{truck(0, 1), truck(0, 1), truck(2, 2, 1, 2)}, [][]int64{{2}, {2}, {4, 37}}, []int64{102, 237, 304}},
		{"the first one later", []plan.Truck{truck(2, 2, 1, 2, 0, 1), truck(0, 1)}, [][]int64{{4, 37, 59}, {2}}, []int64{159, 237, 304}},
		{"the last one later", []plan.Truck{truck(0, 1), truck(1, 2, 0, 1, 2, 2)}, [][]int64{{2}, {3, 25, 39}}, []int64{125, 203, 339}},
		{"the second one of three later", []plan.Truck{truck(1, 1), truck(0, 2, 1, 1, 2, 1), truck(2, 1)}, [][]int64{{2 + 1}, {2, 15, 39}, {4}}, []int64{102, 215, 339}},
		{"each first somewhere", []plan.Truck{truck(0, 1, 1, 1), truck(1, 1, 2, 1), truck(2, 1, 0, 1)}, [][]int64{{2, 15}, {3, 27}, {4, 36}}, []int64{136, 215, 327}},
	} {
		x := of(3, 6, each)
		x.Sats[0].Hold, x.Sats[1].Hold, x.Sats[2].Hold = 100, 200, 300
		p := plan.Plan{Trucks: c.l, Bikes: []plan.Bike{bike(2, 0), bike(0, 1), bike(1, 2), bike(0, 3), bike(2, 4), bike(1, 5)}}
		want := clock.Times{Trucks: c.come}
		for _, b := range p.Bikes {
			out, node := c.out[b.Sat], 4+b.Stops[0]
			start := out + each(1+b.Sat, node)
			want.Bikes = append(want.Bikes, ride(out, start, start+each(node, 1+b.Sat)))
		}
		early(t, c.what, x, p, want)
	}
}

// TestEarlyBikes: P18.2: bikes go their rounds, each by itself, wait where it isn't open yet, and stay.
func TestEarlyBikes(t *testing.T) {
	// Of one satellite (node 1), ready at 2, and three customers (2 to 4), that stay 100, 200, 300.
	for _, c := range []struct {
		what  string
		l     []plan.Bike
		opens []int64
		rides []clock.Ride
	}{
		{"one for all", []plan.Bike{bike(0, 0, 1, 2)}, nil, []clock.Ride{ride(2, 15, 139, 374, 716)}},
		{"the other way round", []plan.Bike{bike(0, 2, 1, 0)}, nil, []clock.Ride{ride(2, 17, 361, 594, 716)}},
		{"one each", []plan.Bike{bike(0, 1), bike(0, 0), bike(0, 2)}, nil, []clock.Ride{ride(2, 16, 248), ride(2, 15, 137), ride(2, 17, 359)}},
		{"two", []plan.Bike{bike(0, 1), bike(0, 2, 0)}, nil, []clock.Ride{ride(2, 16, 248), ride(2, 17, 360, 482)}},
		{"open as one comes", []plan.Bike{bike(0, 0, 1, 2)}, []int64{15, 139, 374}, []clock.Ride{ride(2, 15, 139, 374, 716)}},
		{"open a bit later, the first one", []plan.Bike{bike(0, 0, 1, 2)}, []int64{16, 0, 0}, []clock.Ride{ride(2, 16, 140, 375, 717)}},
		{"open a bit later, the second one", []plan.Bike{bike(0, 0, 1, 2)}, []int64{0, 140, 0}, []clock.Ride{ride(2, 15, 140, 375, 717)}},
		{"open a bit later, the last one", []plan.Bike{bike(0, 0, 1, 2)}, []int64{0, 0, 375}, []clock.Ride{ride(2, 15, 139, 375, 717)}},
		{"each waits", []plan.Bike{bike(0, 0, 1, 2)}, []int64{1000, 2000, 3000}, []clock.Ride{ride(2, 1000, 2000, 3000, 3342)}},
		{"only the first one waits", []plan.Bike{bike(0, 2, 1, 0)}, []int64{5, 6, 1000}, []clock.Ride{ride(2, 1000, 1344, 1577, 1699)}},
		{"one of two waits", []plan.Bike{bike(0, 1), bike(0, 2, 0)}, []int64{500, 0, 0}, []clock.Ride{ride(2, 16, 248), ride(2, 17, 500, 622)}},
	} {
		x := of(1, 3, each)
		for i := range 3 {
			x.Customers[i].Stay = int64(100 * (i + 1))
			if c.opens != nil {
				x.Customers[i].Open = c.opens[i]
			}
		}
		p := plan.Plan{Trucks: []plan.Truck{truck(0, 3)}, Bikes: c.l}
		early(t, c.what, x, p, clock.Times{Trucks: [][]int64{{2}}, Bikes: c.rides})
		// Trucks' way back is nothing to bikes.
		x.Time[1][0] = great - 2
		early(t, c.what+", the truck back late", x, p, clock.Times{Trucks: [][]int64{{2}}, Bikes: c.rides})
	}
}

// TestOwnTime: P18.1, P18.2: no times at all take no time; the first moment is 0, the last one End.
func TestOwnTime(t *testing.T) {
	x := of(2, 2, func(_, _ int) int64 { return 0 })
	p := plan.Plan{Trucks: []plan.Truck{truck(0, 1, 1, 1)}, Bikes: []plan.Bike{bike(0, 0), bike(1, 1)}}
	at := func(n int64) clock.Times {
		return clock.Times{Trucks: [][]int64{{n, n}}, Bikes: []clock.Ride{ride(n, n, n), ride(n, n, n)}}
	}
	early(t, "all at 0", x, p, at(0))
	for _, n := range []int64{1, great - 1, great} {
		check(t, "all at once", x, p, at(n), api.OK)
	}
	for _, n := range []int64{lowest, -1, great + 1, most} {
		check(t, "all at once, outside", x, p, at(n), api.ErrTime)
	}
	x.End = 0
	for c := range x.Customers {
		x.Customers[c].Close = 0
	}
	early(t, "no time at all", x, p, at(0))
	for _, n := range []int64{lowest, -1, 1, most} {
		check(t, "outside of no time", x, p, at(n), api.ErrTime)
	}
	x.Sats[1].Hold = 1
	none(t, "too late by 1", x, p, api.ErrTime)
	check(t, "too late by 1", x, p, at(0), api.ErrTime)
}

// TestTooLate: P18.2: each thing by which it may be too late, up to its edge and a bit beyond.
func TestTooLate(t *testing.T) {
	for _, c := range []struct {
		what   string
		change func(x *inst.Instance, n int64)
		last   int64 // The last number by which it isn't too late.
		up     bool  // Nor is it by the greater ones, but by the lesser ones.
	}{
		{"End, by the first bike", func(x *inst.Instance, n int64) { x.End = n }, 159, true},
		{"End, by the second bike", func(x *inst.Instance, n int64) { x.Customers[3].Open, x.End = 110, n }, 189, true},
		{"End, by the last bike", func(x *inst.Instance, n int64) { x.Customers[2].Stay, x.End = 90, n }, 204, true},
		{"End, by the first truck", func(x *inst.Instance, n int64) { x.Time[2][0], x.End = 200, n }, 215, true},
		{"End, by the last truck", func(x *inst.Instance, n int64) { x.Time[1][0], x.End = 200, n }, 236, true},
		{"Close of the bike's first one", func(x *inst.Instance, n int64) { x.Customers[1].Close = n }, 57, true},
		{"Close of the bike's last one", func(x *inst.Instance, n int64) { x.Customers[0].Close = n }, 115, true},
		{"Close of one that is waited for", func(x *inst.Instance, n int64) { x.Customers[3].Close = max(n, 60) }, 60, true},
		{"Close of the last bike's one", func(x *inst.Instance, n int64) { x.Customers[2].Close = n }, 50, true},
		{"Open, by End", func(x *inst.Instance, n int64) { x.Customers[3].Open, x.End = n, 300 }, 221, false},
		{"Open, by the next one's Close", func(x *inst.Instance, n int64) { x.Customers[1].Open, x.Customers[0].Close = n, 200 }, 142, false},
		{"Hold, by Close", func(x *inst.Instance, n int64) { x.Sats[2].Hold, x.Customers[2].Close = n, 100 }, 59, false},
		{"Hold, by End", func(x *inst.Instance, n int64) { x.Sats[0].Hold, x.End = n, 300 }, 146, false},
		{"Stay, by End", func(x *inst.Instance, n int64) { x.Customers[0].Stay, x.End = n, 300 }, 143, false},
		{"Stay, by the next one's Close", func(x *inst.Instance, n int64) { x.Customers[1].Stay, x.Customers[0].Close = n, 200 }, 88, false},
		{"a truck's first way, by Close", func(x *inst.Instance, n int64) { x.Time[0][3], x.Customers[2].Close = n, 100 }, 54, false},
		{"a truck's first way, by another satellite's Close", func(x *inst.Instance, n int64) { x.Time[0][3], x.Customers[1].Close = n, 100 }, 47, false},
		{"a truck's next way, by Close", func(x *inst.Instance, n int64) { x.Time[3][1], x.Customers[1].Close = n, 100 }, 75, false},
		{"a truck's way back", func(x *inst.Instance, n int64) { x.Time[1][0], x.End = n, 300 }, 264, false},
		{"a bike's first way", func(x *inst.Instance, n int64) { x.Time[1][5], x.Customers[1].Close = n, 100 }, 59, false},
		{"a bike's next way", func(x *inst.Instance, n int64) { x.Time[5][4], x.Customers[0].Close = n, 200 }, 140, false},
		{"a bike's way back", func(x *inst.Instance, n int64) { x.Time[4][1], x.End = n, 300 }, 183, false},
	} {
		for _, d := range []int64{-1, 0, 1} {
			x, p, _ := some()
			c.change(&x, c.last+d)
			if c.what == "Close of one that is waited for" && d < 0 {
				x.Customers[3].Open, x.Customers[3].Close = 0, 49 // Without waiting it is 50.
			}
			want := api.OK
			if c.up && d < 0 || !c.up && d > 0 {
				want = api.ErrTime
			}
			if _, code := asSoon(t, fmt.Sprint(c.what, " ", c.last+d), x, p); code != want {
				t.Errorf("%s %d is %d", c.what, c.last+d, code)
			}
		}
	}
}

// TestWhatIsNothingToIt: P18.1, P18.2: whatever a plan doesn't go by may take as long as it wants; what it costs is nothing to times.
func TestWhatIsNothingToIt(t *testing.T) {
	x, p, want := some()
	used := map[[2]int]bool{}
	for _, l := range [][]int{{0, 1, 2, 0}, {0, 3, 1, 0}, {1, 5, 4, 1}, {2, 7, 2}, {3, 6, 3}} {
		for i := 1; i < len(l); i++ {
			used[[2]int{l[i-1], l[i]}] = true
		}
	}
	x.Time = square(x.Nodes(), func(i, k int) int64 {
		if used[[2]int{i, k}] {
			return each(i, k)
		}
		return great
	})
	x.End = 159
	x.Cost = square(x.Nodes(), func(_, _ int) int64 { return great })
	early(t, "other ways take long", x, p, want)
	x.Time = square(x.Nodes(), func(i, k int) int64 {
		if used[[2]int{i, k}] {
			return each(i, k)
		}
		return 0
	})
	early(t, "other ways take no time", x, p, want)
	// A satellite where nobody stops, and no bike goes from.
	p.Trucks[1], p.Bikes[2] = truck(0, 2), bike(0, 2)
	x.Sats[2].Hold = great
	early(t, "an idle satellite", x, p, soonest(x, p))
}

// TestEdges: P18.1: each condition by itself: the last time that can be so, and the one beyond.
func TestEdges(t *testing.T) {
	for _, c := range []struct {
		what   string
		change func(x *inst.Instance, l clock.Times, n int64)
		last   int64 // The last number that can be so.
		up     bool  // The greater ones can be so, too, the lesser ones can't.
	}{
		{"the first truck's first stop", func(_ *inst.Instance, l clock.Times, n int64) { l.Trucks[0][0] = n }, 2, true},
		{"the first truck's first stop, by the next one", func(_ *inst.Instance, l clock.Times, n int64) { l.Trucks[0][0] = n }, 10, false},
		{"the first truck's last stop", func(_ *inst.Instance, l clock.Times, n int64) { l.Trucks[0][1] = n }, 18, true},
		{"the first truck's last stop, by the bike", func(_ *inst.Instance, l clock.Times, n int64) { l.Trucks[0][1] = n }, 33, false},
		{"the last truck's first stop", func(_ *inst.Instance, l clock.Times, n int64) { l.Trucks[1][0] = n }, 4, true},
		{"the last truck's first stop, by the next one", func(_ *inst.Instance, l clock.Times, n int64) { l.Trucks[1][0], l.Bikes[2].Out = n, 30 }, 15, false},
		{"the last truck's first stop, by the bike", func(_ *inst.Instance, l clock.Times, n int64) { l.Trucks[1][0], l.Bikes[2].Out = n, 20 }, 11, false},
		{"the last truck's last stop", func(_ *inst.Instance, l clock.Times, n int64) { l.Trucks[1][1] = n }, 41, true},
		{"the last truck's last stop, by the bike", func(_ *inst.Instance, l clock.Times, n int64) { l.Trucks[1][1] = n }, 55, false},
		{"the first truck's way back", func(x *inst.Instance, l clock.Times, n int64) { x.Time[2][0], x.End = n, 300 }, 277, false},
		{"the last truck's way back", func(x *inst.Instance, l clock.Times, n int64) { x.Time[1][0], x.End = n, 300 }, 253, false},
		{"the first bike out", func(_ *inst.Instance, l clock.Times, n int64) { l.Bikes[0].Out = n }, 52, true},
		{"the first bike out, by its first one", func(_ *inst.Instance, l clock.Times, n int64) { l.Bikes[0].Out = n }, 64, false},
		{"the first bike's first one", func(_ *inst.Instance, l clock.Times, n int64) { l.Bikes[0].Starts[0] = n }, 76, true},
		{"the first bike's first one, by the next one", func(_ *inst.Instance, l clock.Times, n int64) { l.Bikes[0].Starts[0] = n }, 92, false},
		{"the first bike's last one", func(_ *inst.Instance, l clock.Times, n int64) { l.Bikes[0].Starts[1] = n }, 138, true},
		{"the first bike's last one, by its coming back", func(_ *inst.Instance, l clock.Times, n int64) { l.Bikes[0].Starts[1] = n }, 156, false},
		{"the first bike back", func(_ *inst.Instance, l clock.Times, n int64) { l.Bikes[0].Back = n }, 194, true},
		{"the first bike back, by End", func(x *inst.Instance, l clock.Times, n int64) { x.End, l.Bikes[0].Back = 210, n }, 210, false},
		{"the second bike out", func(_ *inst.Instance, l clock.Times, n int64) { l.Bikes[1].Out = n }, 30, true},
		{"the second bike's one, by its going out", func(_ *inst.Instance, l clock.Times, n int64) { l.Bikes[1].Starts[0] = n }, 68, true},
		{"the second bike's one, by Open", func(x *inst.Instance, l clock.Times, n int64) { x.Customers[3].Open, l.Bikes[1].Starts[0] = 72, n }, 72, true},
		{"the second bike's one, by Close", func(x *inst.Instance, l clock.Times, n int64) { x.Customers[3].Close, l.Bikes[1].Starts[0] = 77, n }, 77, false},
		{"the second bike's one, by its coming back", func(_ *inst.Instance, l clock.Times, n int64) { l.Bikes[1].Starts[0] = n }, 91, false},
		{"the second bike back", func(_ *inst.Instance, l clock.Times, n int64) { l.Bikes[1].Back = n }, 154, true},
		{"the last bike out", func(_ *inst.Instance, l clock.Times, n int64) { l.Bikes[2].Out = n }, 18, true},
		{"the last bike's one", func(_ *inst.Instance, l clock.Times, n int64) { l.Bikes[2].Starts[0] = n }, 62, true},
		{"the last bike back", func(_ *inst.Instance, l clock.Times, n int64) { l.Bikes[2].Back = n }, 138, true},
		{"the last bike back, by End", func(x *inst.Instance, l clock.Times, n int64) { x.End, l.Bikes[2].Back = 210, n }, 210, false},
		{"Close of the first bike's first one", func(x *inst.Instance, l clock.Times, n int64) { x.Customers[1].Close = n }, 80, true},
		{"Close of the first bike's last one", func(x *inst.Instance, l clock.Times, n int64) { x.Customers[0].Close = n }, 150, true},
		{"Open of the first bike's last one", func(x *inst.Instance, l clock.Times, n int64) { x.Customers[0].Open = n }, 150, false},
		{"Hold", func(x *inst.Instance, l clock.Times, n int64) { x.Sats[1].Hold = n }, 17, false},
		{"Stay", func(x *inst.Instance, l clock.Times, n int64) { x.Customers[0].Stay = n }, 8, false},
		{"End", func(x *inst.Instance, l clock.Times, n int64) { x.End = n }, 200, true},
	} {
		for _, d := range []int64{-1, 0, 1} {
			x, p, times := slack()
			c.change(&x, times, c.last+d)
			want := api.OK
			if c.up && d < 0 || !c.up && d > 0 {
				want = api.ErrTime
			}
			check(t, fmt.Sprint(c.what, " ", c.last+d), x, p, times, want)
		}
	}
}

// TestEachNumber: P18.1: whichever of the times isn't what it must be, by however much: also where a sum of 64 bits, or a number of 32, comes round.
func TestEachNumber(t *testing.T) {
	x, p, times := slack()
	for i := range numbers(times) {
		was := *numbers(times)[i]
		for _, n := range []int64{lowest, lowest + 1, lowest + great, -1 << 62, was - 1<<32, was - 1<<33, -great, -1, great + 1, was + 1<<31, was + 1<<32, was + 1<<33, 1 << 62, most - great, most - 50, most - 1, most} {
			own := clone(times)
			*numbers(own)[i] = n
			check(t, "far off", x, p, own, api.ErrTime)
			for k := range numbers(own) {
				if k != i {
					both := clone(own)
					*numbers(both)[k] = n
					check(t, "two far off", x, p, both, api.ErrTime)
				}
			}
		}
		for n := int64(-3); n < 230; n++ {
			own := clone(times)
			*numbers(own)[i] = n
			check(t, "one by one", x, p, own, checked(x, p, own))
		}
	}
	for _, n := range []int64{lowest, -1, 0, great, great + 1, 1 << 62, most} {
		own := clone(times)
		for _, at := range numbers(own) {
			*at = n
		}
		check(t, "all the same", x, p, own, api.ErrTime)
	}
}

// TestSizes: P18.1: a time more, or less, of whatever thing; told ahead of whether they can be so.
func TestSizes(t *testing.T) {
	for what, change := range map[string]func(l *clock.Times){
		"no times":                    func(l *clock.Times) { *l = clock.Times{} },
		"no truck":                    func(l *clock.Times) { l.Trucks = nil },
		"a truck less":                func(l *clock.Times) { l.Trucks = l.Trucks[:1] },
		"a truck more":                func(l *clock.Times) { l.Trucks = append(l.Trucks, []int64{4}) },
		"a truck without a stop more": func(l *clock.Times) { l.Trucks = append(l.Trucks, nil) },
		"a stop less":                 func(l *clock.Times) { l.Trucks[0] = l.Trucks[0][:1] },
		"the last truck's stop less":  func(l *clock.Times) { l.Trucks[1] = l.Trucks[1][:1] },
		"no stop":                     func(l *clock.Times) { l.Trucks[0] = nil },
		"no stop of the last truck":   func(l *clock.Times) { l.Trucks[1] = []int64{} },
		"a stop more":                 func(l *clock.Times) { l.Trucks[0] = append(l.Trucks[0], 50) },
		"the last truck's stop more":  func(l *clock.Times) { l.Trucks[1] = append(l.Trucks[1], 50) },
		"as many stops in all":        func(l *clock.Times) { l.Trucks[0], l.Trucks[1] = l.Trucks[0][:1], append(l.Trucks[1], 50) },
		"no bike":                     func(l *clock.Times) { l.Bikes = nil },
		"a bike less":                 func(l *clock.Times) { l.Bikes = l.Bikes[:2] },
		"a bike more":                 func(l *clock.Times) { l.Bikes = append(l.Bikes, ride(50, 60)) },
		"a customer less":             func(l *clock.Times) { l.Bikes[0].Starts = l.Bikes[0].Starts[:1] },
		"no customer":                 func(l *clock.Times) { l.Bikes[1].Starts = nil },
		"no customer of the last":     func(l *clock.Times) { l.Bikes[2].Starts = []int64{} },
		"a customer more":             func(l *clock.Times) { l.Bikes[0].Starts = append(l.Bikes[0].Starts, 160) },
		"the last bike's one more":    func(l *clock.Times) { l.Bikes[2].Starts = append(l.Bikes[2].Starts, 100) },
		"as many customers in all":    func(l *clock.Times) { l.Bikes[0].Starts, l.Bikes[1].Starts = []int64{80}, []int64{75, 80} },
		"trucks' and bikes' exchanged": func(l *clock.Times) {
			l.Trucks, l.Bikes = append(l.Trucks, []int64{75}), l.Bikes[:2]
		},
		"many": func(l *clock.Times) {
			l.Trucks, l.Bikes = make([][]int64, 100000), make([]clock.Ride, 100000)
		},
		"a long truck": func(l *clock.Times) { l.Trucks[1] = make([]int64, 100000) },
		"a long bike":  func(l *clock.Times) { l.Bikes[1].Starts = make([]int64, 100000) },
	} {
		x, p, times := slack()
		change(&times)
		check(t, what, x, p, times, api.ErrSize)
		for _, n := range []int64{-1, most} {
			for _, at := range numbers(times) {
				*at = n
			}
			check(t, what+", and such times", x, p, times, api.ErrSize)
		}
		p.Trucks[1].Stops[1].Load++
		check(t, what+", and a plan that may not be", x, p, times, api.ErrDrop)
	}
	x, p, times := slack()
	p.Trucks[0].Stops[0].Load++
	check(t, "a plan that may not be", x, p, times, api.ErrDrop)
	times.Bikes[0].Out = -1
	check(t, "a plan that may not be, and such times", x, p, times, api.ErrDrop)
}

// trucked: trucks that leave so much at each satellite; some of it by several.
func trucked(r *rand.Rand, taken []int64) []plan.Truck {
	l := make([]plan.Truck, 1+r.Intn(4))
	for _, s := range r.Perm(len(taken)) {
		left := taken[s]
		for i, k := range r.Perm(len(l)) {
			load := left
			if load > 1 && i < len(l)-1 && r.Intn(2) == 0 {
				load = 1 + r.Int63n(left-1)
			}
			if load > 0 {
				l[k].Stops = append(l[k].Stops, plan.Stop{Sat: s, Load: load})
			}
			left -= load
		}
	}
	return slices.DeleteFunc(l, func(t plan.Truck) bool { return len(t.Stops) == 0 })
}

// biked: bikes of whatever satellites, that go to all of these customers.
func biked(r *rand.Rand, s int, all []int) []plan.Bike {
	var l []plan.Bike
	for len(all) > 0 {
		n := 1 + r.Intn(min(len(all), 4))
		l = append(l, bike(r.Intn(s), all[:n]...))
		all = all[n:]
	}
	return l
}

// planned: some plan that may be, where there is room for all.
func planned(r *rand.Rand, x inst.Instance) plan.Plan {
	p := plan.Plan{Bikes: biked(r, len(x.Sats), r.Perm(len(x.Customers)))}
	p.Trucks = trucked(r, plan.Loads(x, p.Bikes))
	return p
}

// made: an instance of so many satellites and customers, all times of which are below much, and a plan of it. If not all the times in the world are left, about as many are as are needed.
func made(r *rand.Rand, s, c int, much int64) (inst.Instance, plan.Plan) {
	x := of(s, c, func(_, _ int) int64 { return r.Int63n(much) })
	for i := range x.Sats {
		x.Sats[i].Hold = r.Int63n(much)
	}
	for i := range x.Customers {
		x.Customers[i].Load, x.Customers[i].Stay = 1+r.Int63n(3), r.Int63n(much)
	}
	x.Cost = square(x.Nodes(), func(_, _ int) int64 { return r.Int63n(10) })
	p := planned(r, x)
	tighten(r, &x, p)
	return x, p
}

// tighten: customers open, close, and all is over, about when that plan has them.
func tighten(r *rand.Rand, x *inst.Instance, p plan.Plan) {
	x.End = 0
	near := func(n int64) int64 { return min(great, max(0, n+r.Int63n(5)-2)) }
	t := soonest(*x, p)
	for i, b := range p.Bikes {
		for k, c := range b.Stops {
			at := t.Bikes[i].Starts[k]
			if r.Intn(3) == 0 {
				x.Customers[c].Open = near(at)
			}
			if r.Intn(3) == 0 {
				x.Customers[c].Close = max(x.Customers[c].Open, near(at+r.Int63n(4)))
			}
		}
	}
	t = soonest(*x, p)
	for i, l := range t.Trucks {
		last := p.Trucks[i].Stops[len(l)-1]
		x.End = max(x.End, l[len(l)-1]+x.Time[1+last.Sat][0])
	}
	for _, ride := range t.Bikes {
		x.End = max(x.End, ride.Back)
	}
	x.End = near(x.End + r.Int63n(4))
	if r.Intn(4) == 0 {
		x.End = great
	}
}

// TestAtRandom: P18.1, P18.2: Early, beside what is gone through one by one; Check, beside the words, of times that can be so, and of those that are a bit otherwise.
func TestAtRandom(t *testing.T) {
	r := rand.New(rand.NewSource(1))
	seen, changed := map[api.Errno]int{}, map[api.Errno]int{}
	for i := range 6000 {
		x, p := made(r, 1+r.Intn(4), 1+r.Intn(7), []int64{1, 3, 10, 1000, great / 12}[i%5])
		if code := plan.Check(x, p); code != api.OK {
			t.Fatalf("the plan %v may not be: %d", p, code)
		}
		times, code := asSoon(t, "at random", x, p)
		seen[code]++
		if code != api.OK {
			continue
		}
		for range 6 {
			own := clone(times)
			for range 1 + r.Intn(3) {
				l := numbers(own)
				*l[r.Intn(len(l))] += []int64{-1, 1, 1, 2, r.Int63n(9) - 4}[r.Intn(5)]
			}
			want := checked(x, p, own)
			changed[want]++
			check(t, "at random, changed", x, p, own, want)
		}
	}
	if seen[api.OK] < 1500 || seen[api.ErrTime] < 500 || changed[api.OK] < 1500 || changed[api.ErrTime] < 1500 {
		t.Errorf("too few of a kind: %v, %v", seen, changed)
	}
}

// sooner: of two times of a plan each one that is sooner.
func sooner(a, b clock.Times) clock.Times {
	least := clone(a)
	l, other := numbers(least), numbers(b)
	for i := range l {
		*l[i] = min(*l[i], *other[i])
	}
	return least
}

// TestLittle: P18.1, P18.2: all times from just below 0 to just above End: Check, beside the words; of those that can be so none is sooner anywhere than Early's, and these are among them.
func TestLittle(t *testing.T) {
	r := rand.New(rand.NewSource(2))
	some, no := 0, 0
	for _, c := range []struct {
		end   int64
		times int
		p     plan.Plan
	}{
		{5, 40, plan.Plan{Trucks: []plan.Truck{truck(0, 1)}, Bikes: []plan.Bike{bike(0, 0)}}},
		{3, 20, plan.Plan{Trucks: []plan.Truck{truck(0, 1), truck(0, 1)}, Bikes: []plan.Bike{bike(0, 1, 0)}}},
		{3, 30, plan.Plan{Trucks: []plan.Truck{truck(0, 2)}, Bikes: []plan.Bike{bike(0, 0, 1)}}},
		{2, 5, plan.Plan{Trucks: []plan.Truck{truck(1, 1, 0, 1)}, Bikes: []plan.Bike{bike(0, 0), bike(1, 1)}}},
	} {
		for range c.times {
			served := 0
			for _, b := range c.p.Bikes {
				served += len(b.Stops)
			}
			x := of(len(c.p.Trucks[0].Stops), served, func(_, _ int) int64 { return r.Int63n(2) })
			x.End = c.end
			for i := range x.Customers {
				who := &x.Customers[i]
				who.Stay, who.Open = r.Int63n(2), r.Int63n(3)
				who.Close = who.Open + r.Int63n(4)
			}
			for i := range x.Sats {
				x.Sats[i].Hold = r.Int63n(3) / 2
			}
			if plan.Check(x, c.p) != api.OK {
				t.Fatalf("%v may not be", c.p)
			}
			if little(t, x, c.p) {
				some++
			} else {
				no++
			}
		}
	}
	if some < 40 || no < 15 {
		t.Errorf("%d can be done, %d can't", some, no)
	}
}

// little: whether a plan can be done, by all times that there are; Early must tell the same.
func little(t *testing.T, x inst.Instance, p plan.Plan) bool {
	t.Helper()
	times := soonest(x, p)
	l := numbers(times)
	for _, at := range l {
		*at = -1
	}
	var least clock.Times
	some := false
	for i := 0; i < len(l); {
		want := checked(x, p, times)
		if code := clock.Check(x, p, times); code != want {
			t.Errorf("Check of %v, %v, %v is %d, not %d", x, p, times, code, want)
		}
		if want == api.OK && some {
			least = sooner(least, times)
		} else if want == api.OK {
			least, some = clone(times), true
		}
		for i = 0; i < len(l); i++ {
			*l[i]++
			if *l[i] <= x.End+1 {
				break
			}
			*l[i] = -1
		}
	}
	if some {
		early(t, "of all times", x, p, least)
	} else {
		none(t, "of all times", x, p, api.ErrTime)
	}
	return some
}

// greatest: as many trucks as may be, that stop at all satellites, each beginning with another one; bikes, so many, for as many customers as may be.
func greatest(bikes int, time func(i, k int) int64) (inst.Instance, plan.Plan) {
	x := of(sats, customers, time)
	var p plan.Plan
	for i := range bikes {
		b := bike(i % sats)
		for c := i; c < customers; c += bikes {
			b.Stops = append(b.Stops, c)
			x.Customers[c].Load = 1000
		}
		p.Bikes = append(p.Bikes, b)
	}
	loads := plan.Loads(x, p.Bikes)
	for i := range fleet {
		var one plan.Truck
		for k := range sats {
			s := (i + k) % sats
			load := loads[s] / fleet
			if i == 0 {
				load += loads[s] % fleet
			}
			if load > 0 {
				one.Stops = append(one.Stops, plan.Stop{Sat: s, Load: load})
			}
		}
		p.Trucks = append(p.Trucks, one)
	}
	return x, p
}

// TestGreatest: P1, P18.1, P18.2: as many of all as may be, and as great.
func TestGreatest(t *testing.T) {
	for _, bikes := range []int{customers, 24, sats} {
		x, p := greatest(bikes, each)
		if len(p.Trucks) != fleet || len(p.Trucks[59].Stops) != sats || len(p.Bikes) != bikes {
			t.Fatalf("%d trucks, %d bikes", len(p.Trucks), len(p.Bikes))
		}
		times, code := asSoon(t, "as many as may be", x, p)
		if code != api.OK {
			t.Errorf("as many as may be: %d", code)
		}
		for _, i := range []int{0, 1, 11, 12, 719, 720, 721, len(numbers(times)) - 1} {
			for _, d := range []int64{-1, 1} {
				own := clone(times)
				*numbers(own)[i] += d
				check(t, "as many as may be, changed", x, p, own, checked(x, p, own))
			}
		}
	}
	x, p := greatest(1, each)
	if _, code := asSoon(t, "one bike for all", x, p); code != api.OK {
		t.Errorf("one bike for all: %d", code)
	}
	// Each way takes as long as may be: the sums are above what 32 bits hold.
	x, p = greatest(sats, func(_, _ int) int64 { return great })
	for i := range x.Sats {
		x.Sats[i].Hold = great
	}
	for i := range x.Customers {
		x.Customers[i].Stay = great
	}
	asSoon(t, "as long as may be", x, p)
	none(t, "as long as may be", x, p, api.ErrTime)
	// 2^32 more than End: in 32 bits it would be in time.
	for _, n := range []int64{0, 5} {
		x := of(1, 5, func(i, k int) int64 {
			if k == 1 {
				return n
			}
			return 858993459
		})
		x.Time[1][0] = 0
		p := plan.Plan{Trucks: []plan.Truck{truck(0, 5)}, Bikes: []plan.Bike{bike(0, 0, 1, 2, 3, 4)}}
		x.Time[1][2]++
		asSoon(t, "round in 32 bits", x, p)
		none(t, "round in 32 bits", x, p, api.ErrTime)
	}
}

// TestGreatAtRandom: P18.1, P18.2: up to as many of all as may be.
func TestGreatAtRandom(t *testing.T) {
	r := rand.New(rand.NewSource(3))
	done := 0
	for range 200 {
		x, p := made(r, 1+r.Intn(sats), 1+r.Intn(customers), []int64{2, 50, great / 20}[r.Intn(3)])
		if _, code := asSoon(t, "a great one", x, p); code == api.OK {
			done++
		}
	}
	if done < 20 {
		t.Errorf("only %d can be done", done)
	}
}

// sames: Same, both ways round.
func sames(t *testing.T, what string, a, b clock.Times, want bool) {
	t.Helper()
	if clock.Same(a, b) != want || clock.Same(b, a) != want {
		t.Errorf("%s: Same of %v and %v is %t, %t", what, a, b, clock.Same(a, b), clock.Same(b, a))
	}
}

// TestSame: P18.2: each number counts, and how many there are; an empty list is none.
func TestSame(t *testing.T) {
	_, _, times := slack()
	sames(t, "the same", times, clone(times), true)
	for i := range numbers(times) {
		for _, n := range []int64{lowest, -1, *numbers(times)[i] + 1, *numbers(times)[i] + 1<<32, most} {
			own := clone(times)
			*numbers(own)[i] = n
			sames(t, "another time", times, own, false)
			sames(t, "another time, of both", own, clone(own), true)
		}
	}
	for what, change := range map[string]func(l *clock.Times){
		"no trucks":            func(l *clock.Times) { l.Trucks = nil },
		"a truck less":         func(l *clock.Times) { l.Trucks = l.Trucks[:1] },
		"the first truck less": func(l *clock.Times) { l.Trucks = l.Trucks[1:] },
		"a truck more":         func(l *clock.Times) { l.Trucks = append(l.Trucks, nil) },
		"a truck twice":        func(l *clock.Times) { l.Trucks = append(l.Trucks, l.Trucks[1]) },
		"trucks changed about": func(l *clock.Times) { slices.Reverse(l.Trucks) },
		"a stop less":          func(l *clock.Times) { l.Trucks[1] = l.Trucks[1][:1] },
		"a stop more":          func(l *clock.Times) { l.Trucks[0] = append(l.Trucks[0], 0) },
		"no stop":              func(l *clock.Times) { l.Trucks[0] = nil },
		"stops changed about":  func(l *clock.Times) { slices.Reverse(l.Trucks[0]) },
		"a stop of another one": func(l *clock.Times) {
			l.Trucks[0], l.Trucks[1] = l.Trucks[0][:1], append(l.Trucks[0][1:], l.Trucks[1]...)
		},
		"no bikes":               func(l *clock.Times) { l.Bikes = []clock.Ride{} },
		"a bike less":            func(l *clock.Times) { l.Bikes = l.Bikes[:2] },
		"a bike more":            func(l *clock.Times) { l.Bikes = append(l.Bikes, clock.Ride{}) },
		"a bike twice":           func(l *clock.Times) { l.Bikes = append(l.Bikes, l.Bikes[2]) },
		"bikes changed about":    func(l *clock.Times) { slices.Reverse(l.Bikes) },
		"a start less":           func(l *clock.Times) { l.Bikes[0].Starts = l.Bikes[0].Starts[1:] },
		"a start more":           func(l *clock.Times) { l.Bikes[2].Starts = append(l.Bikes[2].Starts, 0) },
		"no start":               func(l *clock.Times) { l.Bikes[1].Starts = nil },
		"starts changed about":   func(l *clock.Times) { slices.Reverse(l.Bikes[0].Starts) },
		"out and back exchanged": func(l *clock.Times) { l.Bikes[1].Out, l.Bikes[1].Back = l.Bikes[1].Back, l.Bikes[1].Out },
		"nothing":                func(l *clock.Times) { *l = clock.Times{} },
	} {
		own := clone(times)
		change(&own)
		sames(t, what, times, own, false)
		sames(t, what+", of both", own, clone(own), true)
	}
	empty := clock.Times{Trucks: [][]int64{}, Bikes: []clock.Ride{}}
	sames(t, "none", empty, clock.Times{}, true)
	a := clock.Times{Trucks: [][]int64{nil}, Bikes: []clock.Ride{{Out: 3, Back: 4}}}
	b := clock.Times{Trucks: [][]int64{{}}, Bikes: []clock.Ride{{Out: 3, Starts: []int64{}, Back: 4}}}
	sames(t, "of no stop, and no customer", a, b, true)
	sames(t, "of no stop, and none", a, empty, false)
	b.Bikes[0].Out = 4
	sames(t, "another time out", a, b, false)
	b.Bikes[0] = clock.Ride{Out: 3, Back: 5}
	sames(t, "another time back", a, b, false)
}

// spare: a list with room behind it, in which the rest stands.
func spare[T any](l []T, rest ...T) []T {
	return append(slices.Clone(l), rest...)[:len(l)]
}

// spared: an instance, a plan, and times, behind each of whose lists something stands; and what must still stand there.
func spared(x inst.Instance, p plan.Plan, t clock.Times) (inst.Instance, plan.Plan, clock.Times, func() bool) {
	p, t = p.Clone(), clone(t)
	var rests []func() bool
	x.Sats, x.Customers = spare(x.Sats, inst.Sat{Room: 5}), spare(x.Customers, inst.Customer{Load: 5})
	rests = append(rests, func() bool {
		return x.Sats[:len(x.Sats)+1][len(x.Sats)] == inst.Sat{Room: 5} && x.Customers[:len(x.Customers)+1][len(x.Customers)] == inst.Customer{Load: 5}
	})
	x.Time = slices.Clone(x.Time)
	for i, row := range x.Time {
		x.Time[i] = spare(row, -5, -6)
		rests = append(rests, func() bool { return slices.Equal(x.Time[i][len(row):len(row)+2], []int64{-5, -6}) })
	}
	p.Trucks, p.Bikes = spare(p.Trucks, truck(1, 1)), spare(p.Bikes, bike(2, 2))
	t.Trucks, t.Bikes = spare(t.Trucks, []int64{-7}), spare(t.Bikes, ride(-8, -9))
	rests = append(rests, func() bool {
		nt, nb := len(p.Trucks), len(p.Bikes)
		return fmt.Sprint(p.Trucks[:nt+1][nt], p.Bikes[:nb+1][nb], t.Trucks[:nt+1][nt], t.Bikes[:nb+1][nb]) == fmt.Sprint(truck(1, 1), bike(2, 2), []int64{-7}, ride(-8, -9))
	})
	for i := range p.Trucks {
		n := len(p.Trucks[i].Stops)
		p.Trucks[i].Stops, t.Trucks[i] = spare(p.Trucks[i].Stops, plan.Stop{Sat: 5, Load: 6}), spare(t.Trucks[i], -1, -2)
		rests = append(rests, func() bool {
			return p.Trucks[i].Stops[:n+1][n] == plan.Stop{Sat: 5, Load: 6} && slices.Equal(t.Trucks[i][n:n+2], []int64{-1, -2})
		})
	}
	for i := range p.Bikes {
		n := len(p.Bikes[i].Stops)
		p.Bikes[i].Stops, t.Bikes[i].Starts = spare(p.Bikes[i].Stops, 7, 8), spare(t.Bikes[i].Starts, -3, -4)
		rests = append(rests, func() bool {
			return slices.Equal(p.Bikes[i].Stops[n:n+2], []int{7, 8}) && slices.Equal(t.Bikes[i].Starts[n:n+2], []int64{-3, -4})
		})
	}
	return x, p, t, func() bool {
		return !slices.ContainsFunc(rests, func(stands func() bool) bool { return !stands() })
	}
}

// TestLeavesWhatItGets: R5: neither instances, nor plans, nor times, nor spare room are changed.
func TestLeavesWhatItGets(t *testing.T) {
	r := rand.New(rand.NewSource(4))
	for range 60 {
		x, p := made(r, 1+r.Intn(4), 1+r.Intn(9), 20)
		x, p, times, stands := spared(x, p, soonest(x, p))
		was := fmt.Sprint(x, p, times)
		asSoon(t, "spare room", x, p)
		check(t, "spare room", x, p, times, checked(x, p, times))
		sames(t, "spare room", times, clone(times), true)
		own := clone(times)
		own.Bikes = own.Bikes[1:]
		check(t, "spare room, and a bike less", x, p, own, api.ErrSize)
		if got := fmt.Sprint(x, p, times); got != was {
			t.Errorf("of %s they leave %s", was, got)
		}
		if !stands() {
			t.Errorf("what is behind a list is changed")
		}
	}
}

// lists: all lists of times.
func lists(t clock.Times) [][]int64 {
	l := slices.Clone(t.Trucks)
	for _, r := range t.Bikes {
		l = append(l, r.Starts)
	}
	return l
}

// TestNewMemory: R5: no list of Early's reaches into another one, whatever is put behind it, or stands in it; all of it is new each time.
func TestNewMemory(t *testing.T) {
	x, p := greatest(sats, each)
	want := soonest(x, p)
	times, _ := clock.Early(x, p)
	for _, l := range lists(times) {
		if n := len(append(l, -1, -2, -3)); n != len(l)+3 {
			t.Errorf("%d behind %d", n, len(l))
		}
	}
	times.Trucks, times.Bikes = append(times.Trucks, []int64{-1})[:fleet], append(times.Bikes, ride(-1, -1))[:sats]
	if !equal(times, want) {
		t.Errorf("what is put behind a list changes another one")
	}
	for i, l := range lists(times) {
		if cap(l) != len(l) {
			t.Errorf("behind the list %d is room for %d more", i, cap(l)-len(l))
		}
		was := clone(times)
		for k := range l {
			l[k] = -1
		}
		for k, other := range lists(times) {
			if k != i && !slices.Equal(other, lists(was)[k]) {
				t.Errorf("the list %d is changed by the list %d", k, i)
			}
		}
	}
	early(t, "when other times are changed", x, p, want)
	// What was told doesn't change with the plan, or the instance.
	times, _ = clock.Early(x, p)
	for i := range x.Time {
		clear(x.Time[i])
	}
	for i := range p.Bikes {
		clear(p.Bikes[i].Stops)
	}
	clear(p.Trucks)
	clear(x.Customers)
	if !equal(times, want) {
		t.Errorf("times change with what they are of")
	}
}

// TestSameAgain: R6: the same again, also behind others.
func TestSameAgain(t *testing.T) {
	x, p, want := some()
	_, _, later := slack()
	other, its, _ := whole()
	for range 3 {
		early(t, "again", x, p, want)
		check(t, "again", x, p, later, api.OK)
		later.Bikes[0].Back = 193
		check(t, "again", x, p, later, api.ErrTime)
		later.Bikes[0].Back = 200
		other.End = 15
		none(t, "another one", other, its, api.ErrTime)
		other.End = 40
		early(t, "another one", other, its, soonest(other, its))
		none(t, "none", inst.Instance{}, p, api.ErrCount)
	}
}

// wrong: what makes an instance, or a plan of it, that may not be, in the order of their errors.
func wrong() map[string]func(x *inst.Instance, p *plan.Plan) {
	return map[string]func(x *inst.Instance, p *plan.Plan){
		"nothing":                    func(x *inst.Instance, p *plan.Plan) { *x, *p = inst.Instance{}, plan.Plan{} },
		"no truck":                   func(x *inst.Instance, _ *plan.Plan) { x.Trucks.Many = 0 },
		"too many bikes":             func(x *inst.Instance, _ *plan.Plan) { x.Bikes.Many = fleet + 1 },
		"no satellite":               func(x *inst.Instance, _ *plan.Plan) { x.Sats = nil },
		"too many customers":         func(x *inst.Instance, _ *plan.Plan) { *x = of(3, customers+1, each) },
		"no Time":                    func(x *inst.Instance, _ *plan.Plan) { x.Time = nil },
		"a row of Time less":         func(x *inst.Instance, _ *plan.Plan) { x.Time = x.Time[:7] },
		"a shorter row of Time":      func(x *inst.Instance, _ *plan.Plan) { x.Time[1] = x.Time[1][:5] },
		"a row of Cost less":         func(x *inst.Instance, _ *plan.Plan) { x.Cost = x.Cost[:7] },
		"End below 0":                func(x *inst.Instance, _ *plan.Plan) { x.End = -1 },
		"End too great":              func(x *inst.Instance, _ *plan.Plan) { x.End = most },
		"Hold below 0":               func(x *inst.Instance, _ *plan.Plan) { x.Sats[0].Hold = -1 },
		"Stay too great":             func(x *inst.Instance, _ *plan.Plan) { x.Customers[0].Stay = most },
		"Close ahead of Open":        func(x *inst.Instance, _ *plan.Plan) { x.Customers[0].Open, x.Customers[0].Close = 5, 4 },
		"Time below 0":               func(x *inst.Instance, _ *plan.Plan) { x.Time[1][5] = -1 },
		"Time too great":             func(x *inst.Instance, _ *plan.Plan) { x.Time[0][1] = most },
		"Time where one is":          func(x *inst.Instance, _ *plan.Plan) { x.Time[4][4] = 1 },
		"Cost too great":             func(x *inst.Instance, _ *plan.Plan) { x.Cost[0][1] = great + 1 },
		"no plan":                    func(_ *inst.Instance, p *plan.Plan) { *p = plan.Plan{} },
		"trucks more than there are": func(x *inst.Instance, _ *plan.Plan) { x.Trucks.Many = 1 },
		"bikes more than there are":  func(x *inst.Instance, _ *plan.Plan) { x.Bikes.Many = 2 },
		"very many":                  func(_ *inst.Instance, p *plan.Plan) { p.Bikes = make([]plan.Bike, 100000) },
		"a truck without a stop":     func(_ *inst.Instance, p *plan.Plan) { p.Trucks[1].Stops = nil },
		"a bike without a stop":      func(_ *inst.Instance, p *plan.Plan) { p.Bikes[1].Stops = nil },
		"a truck at no satellite":    func(_ *inst.Instance, p *plan.Plan) { p.Trucks[1].Stops[0].Sat = 3 },
		"a truck far off":            func(_ *inst.Instance, p *plan.Plan) { p.Trucks[1].Stops[0].Sat = most },
		"a truck twice at one":       func(_ *inst.Instance, p *plan.Plan) { p.Trucks[1].Stops[0].Sat = 0 },
		"a bike of no satellite":     func(_ *inst.Instance, p *plan.Plan) { p.Bikes[0].Sat = -1 },
		"a bike at no customer":      func(_ *inst.Instance, p *plan.Plan) { p.Bikes[0].Stops[1] = 4 },
		"a bike far off":             func(_ *inst.Instance, p *plan.Plan) { p.Bikes[0].Stops[1] = lowest },
		"a customer on two bikes":    func(_ *inst.Instance, p *plan.Plan) { p.Bikes[1].Stops = []int{3, 2} },
		"a customer left out":        func(_ *inst.Instance, p *plan.Plan) { p.Bikes[0].Stops = p.Bikes[0].Stops[:1] },
		"a bike less":                func(_ *inst.Instance, p *plan.Plan) { p.Bikes = p.Bikes[:2] },
		"no room on bikes":           func(x *inst.Instance, _ *plan.Plan) { x.Bikes.Room = 1 },
		"no room at a satellite":     func(x *inst.Instance, _ *plan.Plan) { x.Sats[0].Room = 1 },
		"more left":                  func(_ *inst.Instance, p *plan.Plan) { p.Trucks[1].Stops[1].Load = 2 },
		"a truck less":               func(_ *inst.Instance, p *plan.Plan) { p.Trucks = p.Trucks[:1] },
		"no truck goes":              func(_ *inst.Instance, p *plan.Plan) { p.Trucks = nil },
	}
}

// TestWrong: P18.1, P18.2: chapter 17's errors, ahead of any of times.
func TestWrong(t *testing.T) {
	codes := map[api.Errno]bool{}
	for what, change := range wrong() {
		x, p, times := slack()
		change(&x, &p)
		code := plan.Check(x, p)
		codes[code] = true
		if code == api.OK {
			t.Errorf("%s: the plan may be", what)
		}
		none(t, what, x, p, code)
		check(t, what, x, p, times, code)
		check(t, what+", no times", x, p, clock.Times{}, code)
		for _, at := range numbers(times) {
			*at = most
		}
		check(t, what+", no such times", x, p, times, code)
	}
	for _, code := range []api.Errno{api.ErrCount, api.ErrSize, api.ErrRange, api.ErrFleet, api.ErrRoute, api.ErrNone, api.ErrLoad, api.ErrDrop} {
		if !codes[code] {
			t.Errorf("no error %d", code)
		}
	}
}

// TestMays: P14.3: in each plan that can be done each customer is served from a satellite that has it among its Mays. So no such plan has a block (P15.3), or costs less than the bound (P16.4).
func TestMays(t *testing.T) {
	r := rand.New(rand.NewSource(5))
	done, others := 0, 0
	for i := range 4000 {
		x, p := made(r, 1+r.Intn(3), 1+r.Intn(4), []int64{3, 8, 30}[i%3])
		mays := reach.Mays(x)
		for range 3 {
			may := true
			for _, b := range p.Bikes {
				for _, c := range b.Stops {
					may = may && mays[b.Sat].Has(c)
				}
			}
			_, code := clock.Early(x, p)
			if code == api.OK {
				done++
				doable(t, x, p)
			}
			if !may {
				others++
			}
			if code == api.OK && !may {
				t.Errorf("of %v %v can be done, but Mays are %v", x, p, mays)
			}
			p = planned(r, x)
		}
	}
	if done < 2000 || others < 1000 {
		t.Errorf("%d can be done, %d serve somebody from elsewhere", done, others)
	}
}

// doable: what must be so of an instance of which that plan can be done.
func doable(t *testing.T, x inst.Instance, p plan.Plan) {
	t.Helper()
	if b, ok := block.Find(x); ok {
		t.Errorf("of %v %v can be done, but there is the block %v", x, p, b)
	}
	must, code := bound.Find(x)
	cost, _ := plan.Cost(x, p)
	if code != api.OK || must.All > cost {
		t.Errorf("of %v %v can be done for %d, but the bound is %v, %d", x, p, cost, must, code)
	}
}

// TestMaysOfOne: P14.3, up to the edge: one customer may be served just where that can be done, if straight ways are the shortest ones.
func TestMaysOfOne(t *testing.T) {
	done := 0
	for _, wait := range []int64{0, 11, 12, 15} {
		for end := int64(0); end < 25; end++ {
			for last := wait; last < 25; last++ {
				x, p, _ := whole()
				x.End, x.Customers[0].Open, x.Customers[0].Close = end, wait, last
				_, code := asSoon(t, "of one", x, p)
				may := reach.Mays(x)[0].Has(0)
				if may != (code == api.OK) {
					t.Errorf("End %d, Open %d, Close %d: Mays says %t, Early %d", end, wait, last, may, code)
				}
				if may {
					done++
				}
			}
		}
	}
	if done < 100 {
		t.Errorf("only %d can be done", done)
	}
}
