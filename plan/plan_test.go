package plan_test

import (
	"fmt"
	"math"
	"math/rand"
	"slices"
	"testing"

	"wharfage/api"
	"wharfage/inst"
	"wharfage/plan"
)

const (
	lowest, most = math.MinInt64, math.MaxInt64
	great        = 1000000000 // The greatest number of an instance.
	fleet        = 60         // The most vehicles of a fleet.
	sats         = 12         // The most satellites.
	customers    = 48         // The most customers.
)

// square: a matrix of n rows of n numbers: from a node to itself 0, else what is told.
func square(n int, next func(i, k int) int64) [][]int64 {
	l := make([][]int64, n)
	for i := range l {
		l[i] = make([]int64, n)
		for k := range l[i] {
			if i != k {
				l[i][k] = next(i, k)
			}
		}
	}
	return l
}

// of: an instance of so many satellites, and of customers with these Loads. There is room for all; from a node to another one it costs a hundred times the former, and the latter.
func of(s int, loads ...int64) inst.Instance {
	x := inst.Instance{End: 10, Trucks: inst.Fleet{Many: fleet, Room: great}, Bikes: inst.Fleet{Many: fleet, Room: great}}
	for range s {
		x.Sats = append(x.Sats, inst.Sat{Room: great})
	}
	for _, n := range loads {
		x.Customers = append(x.Customers, inst.Customer{Load: n, Close: 10})
	}
	x.Cost = square(x.Nodes(), func(i, k int) int64 { return int64(100*i + k) })
	x.Time = square(x.Nodes(), func(_, _ int) int64 { return 1 })
	return x
}

// same: so many times the same number.
func same(many int, n int64) []int64 { return slices.Repeat([]int64{n}, many) }

// truck: one that stops at satellites, told by pairs: which, and what it leaves there.
func truck(l ...int64) plan.Truck {
	var t plan.Truck
	for i := 0; i+1 < len(l); i += 2 {
		t.Stops = append(t.Stops, plan.Stop{Sat: int(l[i]), Load: l[i+1]})
	}
	return t
}

// bike: one of a satellite, that goes to customers.
func bike(s int, stops ...int) plan.Bike { return plan.Bike{Sat: s, Stops: slices.Clone(stops)} }

// whole: the document's example of all of it, and its plan.
func whole() (inst.Instance, plan.Plan) {
	x := inst.Instance{
		End: 40, Trucks: inst.Fleet{Many: 1, Room: 9}, Bikes: inst.Fleet{Many: 1, Room: 9},
		Sats: []inst.Sat{{Room: 9, Hold: 3}}, Customers: []inst.Customer{{Load: 5, Open: 9, Close: 20, Stay: 1}},
		Cost: square(3, func(_, _ int) int64 { return 2 }),
		Time: square(3, func(_, _ int) int64 { return 4 }),
	}
	return x, plan.Plan{Trucks: []plan.Truck{truck(0, 5)}, Bikes: []plan.Bike{bike(0, 0)}}
}

// some: an instance of three satellites, and a plan that may be, in which nothing is left over: no vehicle, no room.
func some() (inst.Instance, plan.Plan) {
	x := of(3, 4, 2, 3, 5)
	x.Trucks, x.Bikes = inst.Fleet{Many: 2, Room: 8}, inst.Fleet{Many: 3, Room: 6}
	x.Sats[0].Room, x.Sats[1].Room, x.Sats[2].Room = 9, 5, 0
	return x, plan.Plan{
		Trucks: []plan.Truck{truck(0, 3, 1, 5), truck(0, 6)},
		Bikes:  []plan.Bike{bike(0, 1, 0), bike(1, 3), bike(0, 2)},
	}
}

// checked: the words of P17.1.
func checked(x inst.Instance, p plan.Plan) api.Errno {
	if code := x.Check(); code != api.OK {
		return code
	}
	if len(p.Trucks) > x.Trucks.Many || len(p.Bikes) > x.Bikes.Many {
		return api.ErrFleet
	}
	left, taken := make([]int64, len(x.Sats)), make([]int64, len(x.Sats))
	var trucks, bikes []int64 // What each carries.
	for _, t := range p.Trucks {
		all, times := int64(0), make([]int, len(x.Sats))
		for _, s := range t.Stops {
			if s.Sat < 0 || s.Sat >= len(x.Sats) || s.Load < 1 || s.Load > great {
				return api.ErrRoute
			}
			all += s.Load
			left[s.Sat] += s.Load
			times[s.Sat]++
		}
		if len(t.Stops) == 0 || slices.Max(times) > 1 {
			return api.ErrRoute
		}
		trucks = append(trucks, all)
	}
	times := make([]int, len(x.Customers))
	for _, b := range p.Bikes {
		if b.Sat < 0 || b.Sat >= len(x.Sats) || len(b.Stops) == 0 {
			return api.ErrRoute
		}
		all := int64(0)
		for _, c := range b.Stops {
			if c < 0 || c >= len(x.Customers) {
				return api.ErrRoute
			}
			times[c]++
			all += x.Customers[c].Load
			taken[b.Sat] += x.Customers[c].Load
		}
		bikes = append(bikes, all)
	}
	switch {
	case slices.Max(times) > 1:
		return api.ErrRoute
	case slices.Min(times) == 0:
		return api.ErrNone
	}
	for _, n := range trucks {
		if n > x.Trucks.Room {
			return api.ErrLoad
		}
	}
	for _, n := range bikes {
		if n > x.Bikes.Room {
			return api.ErrLoad
		}
	}
	for s, n := range taken {
		if n > x.Sats[s].Room {
			return api.ErrLoad
		}
	}
	if !slices.Equal(left, taken) {
		return api.ErrDrop
	}
	return api.OK
}

// round: the words of Way, of nodes that there are.
func round(x inst.Instance, l []int) int64 {
	if len(l) == 0 {
		return 0
	}
	all := x.Cost[l[len(l)-1]][l[0]]
	for i := 1; i < len(l); i++ {
		all += x.Cost[l[i-1]][l[i]]
	}
	return all
}

// costs: the words of P17.2, of a plan that may be.
func costs(x inst.Instance, p plan.Plan) int64 {
	all := int64(0)
	for _, t := range p.Trucks {
		l := []int{0}
		for _, s := range t.Stops {
			l = append(l, 1+s.Sat)
		}
		all += round(x, l)
	}
	for _, b := range p.Bikes {
		l := []int{1 + b.Sat}
		for _, c := range b.Stops {
			l = append(l, 1+len(x.Sats)+c)
		}
		all += round(x, l)
	}
	return all
}

// check: Check and Cost's error, beside the words and beside what is told; what a plan costs that may be.
func check(t *testing.T, what string, x inst.Instance, p plan.Plan, want api.Errno) {
	t.Helper()
	if code := plan.Check(x, p); code != want {
		t.Errorf("%s: Check of %v is %d, not %d", what, p, code, want)
	}
	if code := checked(x, p); code != want {
		t.Errorf("%s: by the words %v is %d, not %d", what, p, code, want)
	}
	cost, code := plan.Cost(x, p)
	if code != want {
		t.Errorf("%s: Cost's error of %v is %d, not %d", what, p, code, want)
	}
	sum := int64(0)
	if want == api.OK {
		sum = costs(x, p)
	}
	if cost != sum {
		t.Errorf("%s: Cost of %v is %d, not %d", what, p, cost, sum)
	}
}

// costing: a plan that may be must cost that.
func costing(t *testing.T, what string, x inst.Instance, p plan.Plan, want int64) {
	t.Helper()
	check(t, what, x, p, api.OK)
	if cost, _ := plan.Cost(x, p); cost != want {
		t.Errorf("%s: Cost of %v is %d, not %d", what, p, cost, want)
	}
}

func TestExamples(t *testing.T) {
	x := of(2, 1)
	if l := truck(1, 1).Nodes(x); !slices.Equal(l, []int{0, 2}) {
		t.Errorf("the truck's nodes are %v", l)
	}
	x, p := whole()
	costing(t, "the document's", x, p, 8)
	if l := plan.Loads(x, p.Bikes); !slices.Equal(l, []int64{5}) {
		t.Errorf("the document's Loads are %v", l)
	}
	x, p = some()
	// The trucks go 0 1 2 0, and 0 1 0; the bikes go 1 5 4 1, 2 7 2, and 1 6 1.
	costing(t, "one of three satellites", x, p, 1+102+200+1+100+105+504+401+207+702+106+601)
}

// TestFleets: P17.1: as many as there are may go, and fewer, and no more.
func TestFleets(t *testing.T) {
	x, p := some()
	check(t, "as many as there are", x, p, api.OK)
	x.Trucks.Many = 1
	check(t, "a truck more", x, p, api.ErrFleet)
	x.Trucks.Many, x.Bikes.Many = 3, 4
	check(t, "fewer", x, p, api.OK)
	x.Bikes.Many = 2
	check(t, "a bike more", x, p, api.ErrFleet)
	x.Trucks.Many = 1
	check(t, "both more", x, p, api.ErrFleet)
	// Each fleet by its own number.
	x.Trucks.Many, x.Bikes.Many = 2, 3
	p.Trucks = append(p.Trucks, truck(2, 1))
	check(t, "as many trucks as bikes", x, p, api.ErrFleet)
	x.Trucks.Many = 3
	check(t, "no fleet's fault", x, p, api.ErrDrop)
	for _, many := range []int{fleet, fleet + 1, 1000} {
		x := of(1, same(customers, 1)...)
		p := plan.Plan{Trucks: slices.Repeat([]plan.Truck{truck(0, 1)}, many), Bikes: slices.Repeat([]plan.Bike{bike(0, 0)}, many)}
		want := api.Errno(api.ErrRoute)
		if many > fleet {
			want = api.ErrFleet
		}
		check(t, fmt.Sprint(many, " of each"), x, p, want)
	}
}

// fault is what makes a plan that may not be of the one of some.
type fault struct {
	what   string
	want   api.Errno
	change func(x *inst.Instance, p *plan.Plan)
}

// faults: at least one of each condition, in the order of the words.
func faults() []fault {
	return []fault{
		{"End below 0", api.ErrRange, func(x *inst.Instance, _ *plan.Plan) { x.End = -1 }},
		{"a truck more", api.ErrFleet, func(x *inst.Instance, _ *plan.Plan) { x.Trucks.Many = 1 }},
		{"a bike more", api.ErrFleet, func(x *inst.Instance, _ *plan.Plan) { x.Bikes.Many = 2 }},
		{"a truck without a stop", api.ErrRoute, func(_ *inst.Instance, p *plan.Plan) { p.Trucks[1].Stops = nil }},
		{"a truck at no satellite", api.ErrRoute, func(_ *inst.Instance, p *plan.Plan) { p.Trucks[0].Stops[1].Sat = 3 }},
		{"nothing left", api.ErrRoute, func(_ *inst.Instance, p *plan.Plan) { p.Trucks[0].Stops[0].Load = 0 }},
		{"a bike without a stop", api.ErrRoute, func(_ *inst.Instance, p *plan.Plan) { p.Bikes[2].Stops = nil }},
		{"a bike of no satellite", api.ErrRoute, func(_ *inst.Instance, p *plan.Plan) { p.Bikes[1].Sat = -1 }},
		{"a bike at no customer", api.ErrRoute, func(_ *inst.Instance, p *plan.Plan) { p.Bikes[0].Stops[0] = 4 }},
		{"a customer left out", api.ErrNone, func(_ *inst.Instance, p *plan.Plan) { p.Bikes[0].Stops = p.Bikes[0].Stops[:1] }},
		{"trucks with less room", api.ErrLoad, func(x *inst.Instance, _ *plan.Plan) { x.Trucks.Room = 7 }},
		{"bikes with less room", api.ErrLoad, func(x *inst.Instance, _ *plan.Plan) { x.Bikes.Room = 4 }},
		{"a satellite with less Room", api.ErrLoad, func(x *inst.Instance, _ *plan.Plan) { x.Sats[1].Room = 4 }},
		{"left elsewhere", api.ErrDrop, func(_ *inst.Instance, p *plan.Plan) { p.Trucks[0].Stops[0].Sat = 2 }},
	}
}

// TestOrder: P17.1, R2: each fault by itself; of two the one that the words name first.
func TestOrder(t *testing.T) {
	for i, one := range faults() {
		x, p := some()
		one.change(&x, &p)
		check(t, one.what, x, p, one.want)
		for _, other := range faults()[i+1:] {
			x, p := some()
			one.change(&x, &p)
			other.change(&x, &p)
			check(t, one.what+", "+other.what, x, p, one.want)
		}
	}
}

// TestTruckRoutes: P17.1: what a truck's stops may be.
func TestTruckRoutes(t *testing.T) {
	for _, c := range []struct {
		what string
		l    []plan.Truck
		want api.Errno
	}{
		{"one stop each", []plan.Truck{truck(0, 3), truck(1, 4)}, api.OK},
		{"one for both", []plan.Truck{truck(0, 3, 1, 4)}, api.OK},
		{"one for both, the other way", []plan.Truck{truck(1, 4, 0, 3)}, api.OK},
		{"two at the same one", []plan.Truck{truck(0, 3, 1, 1), truck(1, 3)}, api.OK},
		{"three at the same one", []plan.Truck{truck(1, 1), truck(0, 3, 1, 2), truck(1, 1)}, api.OK},
		{"one twice at the same one", []plan.Truck{truck(0, 3, 1, 1, 1, 3)}, api.ErrRoute},
		{"one twice at the same one, another one between", []plan.Truck{truck(0, 1, 1, 4, 0, 2)}, api.ErrRoute},
		{"the last one twice at the same one", []plan.Truck{truck(0, 3), truck(1, 1, 1, 3)}, api.ErrRoute},
		{"one without a stop", []plan.Truck{truck(), truck(0, 3, 1, 4)}, api.ErrRoute},
		{"the last one without a stop", []plan.Truck{truck(0, 3, 1, 4), {Stops: []plan.Stop{}}}, api.ErrRoute},
		{"only one without a stop", []plan.Truck{truck()}, api.ErrRoute},
		{"at the one below all", []plan.Truck{truck(0, 3, 1, 4, -1, 1)}, api.ErrRoute},
		{"at the one above all", []plan.Truck{truck(0, 3, 1, 4, 2, 1)}, api.ErrRoute},
		{"at a customer's node", []plan.Truck{truck(0, 3, 1, 4), truck(3, 1)}, api.ErrRoute},
		{"nothing left", []plan.Truck{truck(0, 3, 1, 4), truck(0, 0)}, api.ErrRoute},
		{"nothing left ahead", []plan.Truck{truck(0, 0, 1, 4), truck(0, 3)}, api.ErrRoute},
		{"less than nothing left", []plan.Truck{truck(0, 4, 1, 4), truck(0, -1)}, api.ErrRoute},
		{"as much as may be", []plan.Truck{truck(0, great, 1, 4)}, api.ErrLoad},
		{"more than may be", []plan.Truck{truck(0, great+1, 1, 4)}, api.ErrRoute},
		{"more than may be, at the last stop", []plan.Truck{truck(0, 3, 1, great+1)}, api.ErrRoute},
		{"no truck", nil, api.ErrDrop},
	} {
		x := of(2, 3, 2, 2)
		p := plan.Plan{Trucks: c.l, Bikes: []plan.Bike{bike(0, 0), bike(1, 2, 1)}}
		check(t, c.what, x, p, c.want)
	}
}

// TestBikeRoutes: P17.1: what a bike's stops may be.
func TestBikeRoutes(t *testing.T) {
	for _, c := range []struct {
		what string
		l    []plan.Bike
		want api.Errno
	}{
		{"as it is", []plan.Bike{bike(0, 0), bike(1, 2, 1)}, api.OK},
		{"one each", []plan.Bike{bike(1, 2), bike(0, 0), bike(1, 1)}, api.OK},
		{"the other way", []plan.Bike{bike(1, 1, 2), bike(0, 0)}, api.OK},
		{"from elsewhere", []plan.Bike{bike(1, 0), bike(1, 2, 1)}, api.ErrDrop},
		{"twice on the same one", []plan.Bike{bike(0, 0), bike(1, 2, 1, 2)}, api.ErrRoute},
		{"twice, one behind the other", []plan.Bike{bike(0, 0, 0), bike(1, 2, 1)}, api.ErrRoute},
		{"on two of a satellite", []plan.Bike{bike(0, 0), bike(1, 2, 1), bike(1, 1)}, api.ErrRoute},
		{"on two of two satellites", []plan.Bike{bike(0, 0, 2), bike(1, 2, 1)}, api.ErrRoute},
		{"on two, another one on none", []plan.Bike{bike(0, 0), bike(1, 2), bike(1, 2)}, api.ErrRoute},
		{"twice, another one on none", []plan.Bike{bike(0, 0), bike(1, 2, 2)}, api.ErrRoute},
		{"one without a stop", []plan.Bike{bike(0, 0), bike(1, 2, 1), bike(0)}, api.ErrRoute},
		{"the first one without a stop", []plan.Bike{{Sat: 1, Stops: []int{}}, bike(0, 0), bike(1, 2, 1)}, api.ErrRoute},
		{"only one without a stop", []plan.Bike{bike(0)}, api.ErrRoute},
		{"of the one below all", []plan.Bike{bike(-1, 0), bike(1, 2, 1)}, api.ErrRoute},
		{"of the one above all", []plan.Bike{bike(0, 0), bike(2, 2, 1)}, api.ErrRoute},
		{"to the one below all", []plan.Bike{bike(0, 0, -1), bike(1, 2, 1)}, api.ErrRoute},
		{"to the one above all", []plan.Bike{bike(0, 0), bike(1, 2, 1, 3)}, api.ErrRoute},
		{"to one whom a set hasn't", []plan.Bike{bike(0, 0), bike(1, 2, 1, 64)}, api.ErrRoute},
		{"to one whom a set hasn't, first", []plan.Bike{bike(0, 64, 0), bike(1, 2, 1)}, api.ErrRoute},
		{"the first one left out", []plan.Bike{bike(1, 2, 1)}, api.ErrNone},
		{"the last one left out", []plan.Bike{bike(0, 0), bike(1, 1)}, api.ErrNone},
		{"only the last one", []plan.Bike{bike(1, 2)}, api.ErrNone},
		{"no bike", nil, api.ErrNone},
	} {
		x := of(2, 3, 2, 2)
		p := plan.Plan{Trucks: []plan.Truck{truck(0, 3, 1, 4)}, Bikes: c.l}
		check(t, c.what, x, p, c.want)
	}
	x := of(1, 1)
	check(t, "nothing", x, plan.Plan{}, api.ErrNone)
}

// TestRooms: P17.1: of a truck, of a bike, of a satellite: just as much as there is Room for, and a bit more.
func TestRooms(t *testing.T) {
	x := of(3, 4, 2, 3, 5)
	_, p := some()
	for _, c := range []struct {
		what string
		room *int64
		need int64 // Of it as much is needed.
	}{
		{"a truck", &x.Trucks.Room, 8},
		{"a bike", &x.Bikes.Room, 6},
		{"the first satellite", &x.Sats[0].Room, 9},
		{"the second satellite", &x.Sats[1].Room, 5},
		{"the last satellite", &x.Sats[2].Room, 0},
	} {
		was := *c.room
		for _, n := range []int64{c.need, c.need + 1, great} {
			*c.room = n
			check(t, c.what, x, p, api.OK)
		}
		for n := range c.need {
			*c.room = n
			check(t, c.what, x, p, api.ErrLoad)
		}
		*c.room = was
	}
	// What trucks leave at a satellite is nothing to its Room, but to what it must be.
	x.Sats[2].Room = 1
	p.Trucks[1] = truck(0, 6, 2, 2)
	check(t, "more left than there is Room for", x, p, api.ErrDrop)
	// A truck's room is its own, and so is a bike's: whichever is too full.
	x, p = some()
	p.Trucks[0], p.Trucks[1] = truck(0, 3), truck(0, 6, 1, 5)
	check(t, "the last truck too full", x, p, api.ErrLoad)
	x.Trucks.Room = 11
	check(t, "not too full any more", x, p, api.OK)
	x, p = some()
	p.Bikes = []plan.Bike{bike(0, 1), bike(1, 3), bike(0, 2, 0)}
	check(t, "the last bike too full", x, p, api.ErrLoad)
	x.Bikes.Room = 7
	check(t, "not too full any more", x, p, api.OK)
}

// TestGreatLoads: P17.1: as much as there may be, and what comes round to less where a number has 32 bits.
func TestGreatLoads(t *testing.T) {
	x := of(sats, same(sats, great)...)
	var p plan.Plan
	for s := range sats {
		p.Trucks, p.Bikes = append(p.Trucks, truck(int64(s), great)), append(p.Bikes, bike(s, s))
	}
	check(t, "as much as may be", x, p, api.OK)
	full := plan.Plan{Trucks: []plan.Truck{{}}, Bikes: p.Bikes}
	for s := range sats {
		full.Trucks[0].Stops = append(full.Trucks[0].Stops, plan.Stop{Sat: s, Load: great})
	}
	check(t, "all on one truck", x, full, api.ErrLoad)
	const fifth = 858993460 // Five times that is 4 more than 2^32.
	for _, many := range []int{1, 2, 4, 5, 6, 10} {
		x := of(sats, same(many, fifth)...)
		var one, each plan.Plan
		one.Trucks, one.Bikes = make([]plan.Truck, 1), make([]plan.Bike, 1)
		for c := range many {
			one.Trucks[0].Stops = append(one.Trucks[0].Stops, plan.Stop{Sat: c, Load: fifth})
			one.Bikes[0].Stops = append(one.Bikes[0].Stops, c)
			each.Trucks, each.Bikes = append(each.Trucks, truck(int64(c), fifth)), append(each.Bikes, bike(c, c))
		}
		load := api.Errno(api.ErrLoad)
		if many == 1 {
			load = api.OK
		}
		what := fmt.Sprint(many, " fifths")
		check(t, what+", one vehicle each", x, each, api.OK)
		check(t, what+" on one truck", x, plan.Plan{Trucks: one.Trucks, Bikes: each.Bikes}, load)
		check(t, what+" on one bike", x, plan.Plan{Trucks: each.Trucks, Bikes: one.Bikes}, load)
		for c := range each.Bikes {
			each.Bikes[c].Sat = 0
		}
		check(t, what+" through one satellite", x, each, load)
	}
	// Trucks leave 2^32 more than is taken.
	x = of(1, 1)
	p = plan.Plan{Bikes: []plan.Bike{bike(0, 0)}, Trucks: slices.Repeat([]plan.Truck{truck(0, 858993459)}, 5)}
	p.Trucks = append(p.Trucks, truck(0, 2))
	check(t, "2^32 more", x, p, api.ErrDrop)
	p.Trucks = []plan.Truck{truck(0, 1)}
	check(t, "just as much", x, p, api.OK)
}

// TestDrops: P17.1: what trucks leave at each satellite is what its bikes take, by however many.
func TestDrops(t *testing.T) {
	for _, c := range []struct {
		what string
		l    []plan.Truck
		want api.Errno
	}{
		{"by one each", []plan.Truck{truck(0, 9), truck(1, 5)}, api.OK},
		{"by three", []plan.Truck{truck(1, 1, 0, 2), truck(0, 3, 1, 4), truck(0, 4)}, api.OK},
		{"one less at the first one", []plan.Truck{truck(0, 8), truck(1, 5)}, api.ErrDrop},
		{"one more at the first one", []plan.Truck{truck(0, 10), truck(1, 5)}, api.ErrDrop},
		{"one less at the second one", []plan.Truck{truck(0, 9), truck(1, 4)}, api.ErrDrop},
		{"one more at the second one", []plan.Truck{truck(0, 9), truck(1, 6)}, api.ErrDrop},
		{"as much in all", []plan.Truck{truck(0, 8), truck(1, 6)}, api.ErrDrop},
		{"changed about", []plan.Truck{truck(0, 5), truck(1, 9)}, api.ErrDrop},
		{"where no bike goes from", []plan.Truck{truck(0, 9), truck(1, 5), truck(2, 1)}, api.ErrDrop},
		{"nothing at the second one", []plan.Truck{truck(0, 9)}, api.ErrDrop},
		{"only the last truck", []plan.Truck{truck(0, 1), truck(0, 9, 1, 5)}, api.ErrDrop},
	} {
		x := of(3, 4, 2, 3, 5)
		p := plan.Plan{Trucks: c.l, Bikes: []plan.Bike{bike(0, 1, 0), bike(1, 3), bike(0, 2)}}
		check(t, c.what, x, p, c.want)
	}
}

// TestEachNumber: P17.1: whichever number of a plan isn't what it must be, by however much.
func TestEachNumber(t *testing.T) {
	far := []int{lowest, lowest + 1, -1 << 32, -65, -64, -1, 3, 4, 11, 12, 47, 48, 63, 64, 65, 1 << 32, most - 1, most}
	x, p := some()
	for i := range p.Trucks {
		for k := range p.Trucks[i].Stops {
			for _, n := range far {
				own := p.Clone()
				own.Trucks[i].Stops[k].Sat = n
				check(t, "a truck's satellite", x, own, api.ErrRoute)
				own = p.Clone()
				own.Trucks[i].Stops[k].Load = int64(n)
				check(t, "what is left", x, own, checked(x, own))
			}
		}
	}
	for i := range p.Bikes {
		for _, n := range far {
			own := p.Clone()
			own.Bikes[i].Sat = n
			check(t, "a bike's satellite", x, own, api.ErrRoute)
		}
		for k := range p.Bikes[i].Stops {
			for _, n := range far[slices.Index(far, 4):] {
				own := p.Clone()
				own.Bikes[i].Stops[k] = n
				check(t, "a customer above all", x, own, api.ErrRoute)
			}
			for _, n := range far[:slices.Index(far, 3)] {
				own := p.Clone()
				own.Bikes[i].Stops[k] = n
				check(t, "a customer below all", x, own, api.ErrRoute)
			}
		}
	}
}

// made: a plan that may be, of an instance of so many satellites and customers, in which not much room is left.
func made(r *rand.Rand, s, c int) (inst.Instance, plan.Plan) {
	loads := make([]int64, c)
	much := []int64{1, 4, great / customers}[r.Intn(3)]
	for i := range loads {
		loads[i] = 1 + r.Int63n(much)
	}
	x := of(s, loads...)
	x.Cost = square(x.Nodes(), func(_, _ int) int64 { return r.Int63n(great + 1) })
	p := plan.Plan{Bikes: biked(r, s, r.Perm(c))}
	taken := make([]int64, s)
	x.Bikes.Room = 0
	for _, b := range p.Bikes {
		load := int64(0)
		for _, c := range b.Stops {
			load += loads[c]
		}
		taken[b.Sat] += load
		x.Bikes.Room = max(x.Bikes.Room, load)
	}
	p.Trucks = trucked(r, taken)
	x.Trucks.Room = 0
	for _, t := range p.Trucks {
		load := int64(0)
		for _, s := range t.Stops {
			load += s.Load
		}
		x.Trucks.Room = max(x.Trucks.Room, load)
	}
	for s := range x.Sats {
		x.Sats[s].Room = taken[s] + r.Int63n(2)
	}
	x.Trucks.Many, x.Bikes.Many = min(fleet, len(p.Trucks)+r.Intn(2)), min(fleet, len(p.Bikes)+r.Intn(2))
	return x, p
}

// biked: bikes of whatever satellites, that go to all of these customers.
func biked(r *rand.Rand, s int, all []int) []plan.Bike {
	var l []plan.Bike
	for len(all) > 0 {
		n := 1 + r.Intn(len(all))
		l = append(l, bike(r.Intn(s), all[:n]...))
		all = all[n:]
	}
	return l
}

// trucked: trucks that leave that much at each satellite, some of it by two.
func trucked(r *rand.Rand, taken []int64) []plan.Truck {
	var l []plan.Truck
	first := plan.Truck{}
	for _, s := range r.Perm(len(taken)) {
		load := taken[s]
		if load > 1 && r.Intn(2) == 0 {
			part := 1 + r.Int63n(load-1)
			l = append(l, truck(int64(s), part))
			load -= part
		}
		if load > 0 {
			first.Stops = append(first.Stops, plan.Stop{Sat: s, Load: load})
		}
	}
	return append(l, first)
}

// spoil: some one number, or list, of a plan, or of its instance, becomes another one.
func spoil(r *rand.Rand, x *inst.Instance, p *plan.Plan) {
	step := []int{-1, 1, 1, r.Intn(9) - 4}[r.Intn(4)]
	t, b := r.Intn(len(p.Trucks)), r.Intn(len(p.Bikes))
	stops, calls := p.Trucks[t].Stops, p.Bikes[b].Stops
	switch r.Intn(12) {
	case 0:
		x.Trucks.Many += step
	case 1:
		x.Bikes.Many += step
	case 2:
		x.Trucks.Room += int64(step)
	case 3:
		x.Bikes.Room += int64(step)
	case 4:
		x.Sats[r.Intn(len(x.Sats))].Room += int64(step)
	case 5:
		p.Bikes[b].Sat += step
	case 6:
		p.Trucks = append(p.Trucks, p.Trucks[t])
	case 7:
		p.Bikes = slices.Delete(p.Bikes, b, b+1)
	case 8:
		if len(stops) > 0 {
			stops[r.Intn(len(stops))].Sat += step
		}
	case 9:
		if len(stops) > 0 {
			stops[r.Intn(len(stops))].Load += int64(step)
		}
	case 10:
		if len(calls) > 0 {
			calls[r.Intn(len(calls))] += step
		}
	case 11:
		if len(calls) > 0 {
			p.Bikes[b].Stops = calls[1:]
		}
	}
}

// TestAtRandom: P17.1, P17.2, by their words: plans that may be, and those that are a bit otherwise.
func TestAtRandom(t *testing.T) {
	r := rand.New(rand.NewSource(1))
	seen := map[api.Errno]int{}
	for range 20000 {
		x, p := made(r, 1+r.Intn(5), 1+r.Intn(8))
		check(t, "one that may be", x, p, api.OK)
		spoil(r, &x, &p)
		if len(p.Trucks) > 0 && len(p.Bikes) > 0 && r.Intn(2) == 0 {
			spoil(r, &x, &p)
		}
		want := checked(x, p)
		seen[want]++
		check(t, "at random", x, p, want)
	}
	for _, code := range []api.Errno{api.OK, api.ErrRange, api.ErrFleet, api.ErrRoute, api.ErrNone, api.ErrLoad, api.ErrDrop} {
		if seen[code] < 200 {
			t.Errorf("the error %d comes only %d times", code, seen[code])
		}
	}
}

// TestGreatAtRandom: P17.1, P17.2: up to as many of all as may be.
func TestGreatAtRandom(t *testing.T) {
	r := rand.New(rand.NewSource(2))
	for i := range 200 {
		s, c := 1+r.Intn(sats), 1+r.Intn(customers)
		if i%4 == 0 {
			s, c = sats, customers
		}
		x, p := made(r, s, c)
		check(t, "a great one", x, p, api.OK)
		spoil(r, &x, &p)
		check(t, "a great one, changed", x, p, checked(x, p))
	}
}

// TestLittleBikes: P17.1: all bikes, two at most, with three stops at most, of two satellites and customers, and of those just beside.
func TestLittleBikes(t *testing.T) {
	var all []plan.Bike
	for s := -1; s <= 2; s++ {
		all = append(all, bike(s))
		for a := -1; a <= 2; a++ {
			all = append(all, bike(s, a))
			for b := -1; b <= 2; b++ {
				all = append(all, bike(s, a, b), bike(s, a, b, 1))
			}
		}
	}
	x := of(2, 1, 2)
	x.Bikes.Room = 2
	trucks := []plan.Truck{truck(0, 2), truck(1, 1)}
	may := 0
	for _, a := range all {
		p := plan.Plan{Trucks: trucks, Bikes: []plan.Bike{a}}
		check(t, "one bike", x, p, checked(x, p))
		for _, b := range all {
			p := plan.Plan{Trucks: trucks, Bikes: []plan.Bike{a, b}}
			want := checked(x, p)
			check(t, "two bikes", x, p, want)
			if want == api.OK {
				may++
			}
		}
	}
	if may != 2 {
		t.Errorf("%d may be, not the one of two bikes, told both ways round", may)
	}
}

// TestLittleTrucks: P17.1: all trucks, two at most, with three stops at most, of two satellites, and of those just beside.
func TestLittleTrucks(t *testing.T) {
	var stops []int64
	for s := int64(-1); s <= 2; s++ {
		for load := int64(0); load <= 3; load++ {
			stops = append(stops, s, load)
		}
	}
	all := []plan.Truck{truck()}
	for i := 0; i < len(stops); i += 2 {
		all = append(all, truck(stops[i:i+2]...))
		for k := 0; k < len(stops); k += 2 {
			two := append(slices.Clone(stops[i:i+2]), stops[k:k+2]...)
			all = append(all, truck(two...), truck(append(two, 0, 1)...))
		}
	}
	x := of(2, 1, 2)
	x.Trucks.Room = 2
	bikes := []plan.Bike{bike(0, 1), bike(1, 0)}
	may := 0
	for _, a := range all {
		p := plan.Plan{Trucks: []plan.Truck{a}, Bikes: bikes}
		check(t, "one truck", x, p, checked(x, p))
		for _, b := range all {
			p := plan.Plan{Trucks: []plan.Truck{a, b}, Bikes: bikes}
			want := checked(x, p)
			check(t, "two trucks", x, p, want)
			if want == api.OK {
				may++
			}
		}
	}
	// 2 at the first one and 1 at the second one; 1 and 1, and 1 at the first one, in either order: each both ways round.
	if may != 6 {
		t.Errorf("%d may be", may)
	}
}

// ways: Way must be that, of nodes told one by one, or as a list.
func ways(t *testing.T, what string, x inst.Instance, want int64, l ...int) {
	t.Helper()
	if n := plan.Way(x, l...); n != want {
		t.Errorf("%s: Way by %v is %d, not %d", what, l, n, want)
	}
}

// TestWay: P17.2: from each to the next one, and from the last one to the first.
func TestWay(t *testing.T) {
	x := of(2, 1, 1)
	if n := plan.Way(x); n != 0 {
		t.Errorf("Way by none is %d", n)
	}
	if n := plan.Way(x, 0, 2, 1); n != 2+201+100 {
		t.Errorf("Way by three is %d", n)
	}
	ways(t, "by none", x, 0)
	for n := range 5 {
		ways(t, "by one", x, 0, n)
		ways(t, "twice by one", x, 0, n, n)
		ways(t, "three times by one", x, 0, n, n, n)
	}
	ways(t, "there and back", x, 3+300, 0, 3)
	ways(t, "there and back", x, 3+300, 3, 0)
	ways(t, "by all", x, 1+102+203+304+400, 0, 1, 2, 3, 4)
	ways(t, "by all, back", x, 403+302+201+100+4, 4, 3, 2, 1, 0)
	ways(t, "begun elsewhere", x, 1+102+203+304+400, 2, 3, 4, 0, 1)
	ways(t, "by some twice", x, 102+201+102+201, 1, 2, 1, 2)
	ways(t, "by one twice, at once", x, 102+201, 1, 1, 2)
	ways(t, "at its end twice", x, 102+201, 1, 2, 2, 1)
	x.Cost = square(x.Nodes(), func(_, _ int) int64 { return great })
	ways(t, "as dear as can be", x, 3*great, 4, 1, 2)
	if n := plan.Way(x, slices.Repeat([]int{1, 2}, 500000)...); n != 1000000*great {
		t.Errorf("a long way is %d", n)
	}
	x.End, x.Trucks.Room, x.Bikes.Room = 0, 0, 0
	ways(t, "nothing else matters", x, 2*great, 0, 4)
}

// TestWayByNone: P17.2: 0, where one is no node, wherever it stands.
func TestWayByNone(t *testing.T) {
	x := of(2, 1, 1)
	for _, n := range []int{lowest, -1 << 32, -6, -5, -2, -1, 5, 6, 61, 1 << 32, most} {
		ways(t, "no node", x, 0, n)
		ways(t, "no node first", x, 0, n, 1, 2)
		ways(t, "no node between", x, 0, 1, n, 2)
		ways(t, "no node last", x, 0, 1, 2, n)
		ways(t, "no node twice", x, 0, 1, n, n)
	}
	big := of(sats, same(customers, 1)...)
	ways(t, "the last node of all", big, 60+6000, 0, 60)
	ways(t, "one more", big, 0, 0, 61)
}

// TestWayAtRandom: P17.2, by its words.
func TestWayAtRandom(t *testing.T) {
	r := rand.New(rand.NewSource(3))
	for range 300 {
		x, _ := made(r, 1+r.Intn(4), 1+r.Intn(9))
		for range 10 {
			l := make([]int, r.Intn(8))
			for i := range l {
				l[i] = r.Intn(x.Nodes())
			}
			ways(t, "at random", x, round(x, l), l...)
		}
	}
}

// TestNodes: P17.2: whatever the numbers, and whatever the instance.
func TestNodes(t *testing.T) {
	x := of(3, 1, 1)
	for _, c := range []struct {
		what string
		x    inst.Instance
		b    plan.Bike
		want []int
	}{
		{"one stop", x, bike(0, 0), []int{1, 4}},
		{"some", x, bike(2, 1, 0, 1), []int{3, 5, 4, 5}},
		{"no stop", x, bike(1), []int{2}},
		{"one that isn't there", x, bike(7, 9, -1), []int{8, 13, 3}},
		{"below 0", x, bike(-1, -4, -5), []int{0, 0, -1}},
		{"round", x, bike(most, most, most-3, most-4, lowest), []int{lowest, lowest + 3, lowest, most, lowest + 4}},
		{"of no instance", inst.Instance{}, bike(0, 0, 1), []int{1, 1, 2}},
		{"only satellites", inst.Instance{Sats: make([]inst.Sat, 20)}, bike(1, 2), []int{2, 23}},
		{"only customers", inst.Instance{Customers: make([]inst.Customer, 5)}, bike(1, 2), []int{2, 3}},
	} {
		if l := c.b.Nodes(c.x); !slices.Equal(l, c.want) {
			t.Errorf("%s: the nodes of %v are %v, not %v", c.what, c.b, l, c.want)
		}
	}
	for _, c := range []struct {
		what string
		t    plan.Truck
		want []int
	}{
		{"one stop", truck(0, 5), []int{0, 1}},
		{"some", truck(2, 5, 0, 6, 2, 7), []int{0, 3, 1, 3}},
		{"no stop", truck(), []int{0}},
		{"one that isn't there", truck(9, 5, -1, 5), []int{0, 10, 0}},
		{"round", truck(most, 5, lowest, 5), []int{0, lowest, lowest + 1}},
	} {
		for _, x := range []inst.Instance{x, {}} {
			if l := c.t.Nodes(x); !slices.Equal(l, c.want) {
				t.Errorf("%s: the nodes of %v are %v, not %v", c.what, c.t, l, c.want)
			}
		}
	}
	long := slices.Repeat([]int{1}, 100000)
	if l := bike(0, long...).Nodes(x); len(l) != 100001 || l[100000] != 5 {
		t.Errorf("of a long one there are %d", len(l))
	}
}

// TestCosts: P17.2: each vehicle's way, round, whatever it leaves; as much as can be.
func TestCosts(t *testing.T) {
	x := of(2, 1, 1)
	p := plan.Plan{Trucks: []plan.Truck{truck(0, 1, 1, 1)}, Bikes: []plan.Bike{bike(0, 0), bike(1, 1)}}
	costing(t, "one round", x, p, 1+102+200+103+301+204+402)
	p.Trucks[0] = truck(1, 1, 0, 1)
	costing(t, "the other way", x, p, 2+201+100+103+301+204+402)
	p.Trucks = []plan.Truck{truck(0, 1), truck(1, 1)}
	costing(t, "two trucks", x, p, 1+100+2+200+103+301+204+402)
	p.Trucks, p.Bikes = []plan.Truck{truck(1, 2)}, []plan.Bike{bike(1, 1, 0)}
	costing(t, "one bike", x, p, 2+200+204+403+302)
	p.Trucks = []plan.Truck{truck(1, 1), truck(1, 1)}
	costing(t, "two trucks to one satellite", x, p, 2+200+2+200+204+403+302)
	x.Cost = square(x.Nodes(), func(_, _ int) int64 { return 0 })
	costing(t, "for nothing", x, p, 0)

	x = of(sats, same(customers, 60)...)
	x.Cost = square(x.Nodes(), func(_, _ int) int64 { return great })
	p = plan.Plan{Trucks: make([]plan.Truck, fleet), Bikes: make([]plan.Bike, customers)}
	for i := range p.Trucks {
		for s := range sats {
			p.Trucks[i].Stops = append(p.Trucks[i].Stops, plan.Stop{Sat: s, Load: 4})
		}
	}
	for i := range p.Bikes {
		p.Bikes[i] = bike(i%sats, i)
	}
	costing(t, "as much as can be", x, p, (fleet*(sats+1)+2*customers)*great)
}

// loads: Loads must be that.
func loads(t *testing.T, what string, x inst.Instance, l []plan.Bike, want ...int64) {
	t.Helper()
	if got := plan.Loads(x, l); !slices.Equal(got, want) {
		t.Errorf("%s: Loads of %v are %v, not %v", what, l, got, want)
	}
}

// TestLoads: P17.3: of each satellite; who isn't there is left out, and nobody else.
func TestLoads(t *testing.T) {
	x := of(3, 1, 10, 100, 1000)
	loads(t, "no bike", x, nil, 0, 0, 0)
	loads(t, "no stop", x, []plan.Bike{bike(1)}, 0, 0, 0)
	loads(t, "one", x, []plan.Bike{bike(1, 2)}, 0, 100, 0)
	loads(t, "all on one", x, []plan.Bike{bike(2, 3, 0, 1, 2)}, 0, 0, 1111)
	loads(t, "some of one satellite", x, []plan.Bike{bike(0, 3), bike(2, 0), bike(0, 1, 2)}, 1110, 0, 1)
	loads(t, "on two", x, []plan.Bike{bike(0, 3, 1), bike(1, 1), bike(0, 1)}, 1020, 10, 0)
	loads(t, "twice on one", x, []plan.Bike{bike(0, 3, 1, 3)}, 2010, 0, 0)
	for _, n := range []int{lowest, -1 << 32, -64, -1, 4, 48, 63, 64, 1 << 32, most} {
		loads(t, "no such customer", x, []plan.Bike{bike(1, 2, n, 0), bike(0, n)}, 0, 101, 0)
		loads(t, "no such satellite", x, []plan.Bike{bike(1, 2), bike(n, 3), bike(2, 0)}, 0, 100, 1)
		loads(t, "neither", x, []plan.Bike{bike(n, n)}, 0, 0, 0)
	}
	loads(t, "a satellite's number that is only a customer's", x, []plan.Bike{bike(3, 3)}, 0, 0, 0)
	x.Sats, x.Trucks.Many, x.Bikes.Many, x.Bikes.Room = x.Sats[:2], 1, 1, 0
	loads(t, "more bikes than there are, without room, of an instance that may not be", x, []plan.Bike{bike(0, 3), bike(1, 2), bike(2, 1)}, 1000, 100)
	loads(t, "of nothing", inst.Instance{}, []plan.Bike{bike(0, 0)})
}

// TestLoadsOfAny: P17.3: of instances that may not be, too: as many satellites and customers, as great Loads as there are.
func TestLoadsOfAny(t *testing.T) {
	x := of(100, same(200, 1)...)
	l := make([]plan.Bike, 200)
	for c := range l {
		l[c] = bike(c%100, c)
	}
	loads(t, "as many as there are", x, l, same(100, 2)...)
	x = of(1, most, 1, lowest, -5)
	loads(t, "as great as can be", x, []plan.Bike{bike(0, 0)}, most)
	loads(t, "round", x, []plan.Bike{bike(0, 0, 1)}, lowest)
	loads(t, "round, by two", x, []plan.Bike{bike(0, 1), bike(0, 0)}, lowest)
	loads(t, "below 0", x, []plan.Bike{bike(0, 3)}, -5)
	loads(t, "round and back", x, []plan.Bike{bike(0, 0, 1, 3, 2)}, -5)
	x = of(1, great)
	loads(t, "more than 32 bits hold", x, []plan.Bike{bike(0, slices.Repeat([]int{0}, 48)...)}, 48*great)
}

// sames: Same, both ways round.
func sames(t *testing.T, what string, a, b plan.Plan, want bool) {
	t.Helper()
	if plan.Same(a, b) != want || plan.Same(b, a) != want {
		t.Errorf("%s: Same of %v and %v is %t, %t", what, a, b, plan.Same(a, b), plan.Same(b, a))
	}
}

// TestSame: P17.3: each number counts, and how many there are; an empty list is none.
func TestSame(t *testing.T) {
	_, p := some()
	sames(t, "the same", p, p, true)
	for what, change := range map[string]func(p *plan.Plan){
		"a truck less":              func(p *plan.Plan) { p.Trucks = p.Trucks[:1] },
		"the first truck less":      func(p *plan.Plan) { p.Trucks = p.Trucks[1:] },
		"no truck":                  func(p *plan.Plan) { p.Trucks = nil },
		"an empty truck more":       func(p *plan.Plan) { p.Trucks = append(p.Trucks, truck()) },
		"a truck twice":             func(p *plan.Plan) { p.Trucks = append(p.Trucks, p.Trucks[1]) },
		"trucks changed about":      func(p *plan.Plan) { slices.Reverse(p.Trucks) },
		"a truck's satellite":       func(p *plan.Plan) { p.Trucks[0].Stops[1].Sat++ },
		"a truck's last satellite":  func(p *plan.Plan) { p.Trucks[1].Stops[0].Sat++ },
		"what is left":              func(p *plan.Plan) { p.Trucks[0].Stops[0].Load++ },
		"what is left by the last":  func(p *plan.Plan) { p.Trucks[1].Stops[0].Load++ },
		"a truck's stop less":       func(p *plan.Plan) { p.Trucks[0].Stops = p.Trucks[0].Stops[:1] },
		"a truck's only stop less":  func(p *plan.Plan) { p.Trucks[1].Stops = nil },
		"a truck's stop more":       func(p *plan.Plan) { p.Trucks[1].Stops = append(p.Trucks[1].Stops, plan.Stop{}) },
		"a truck the other way":     func(p *plan.Plan) { slices.Reverse(p.Trucks[0].Stops) },
		"a bike less":               func(p *plan.Plan) { p.Bikes = p.Bikes[:2] },
		"the first bike less":       func(p *plan.Plan) { p.Bikes = p.Bikes[1:] },
		"no bike":                   func(p *plan.Plan) { p.Bikes = nil },
		"an empty bike more":        func(p *plan.Plan) { p.Bikes = append(p.Bikes, bike(0)) },
		"a bike twice":              func(p *plan.Plan) { p.Bikes = append(p.Bikes, p.Bikes[0]) },
		"bikes changed about":       func(p *plan.Plan) { slices.Reverse(p.Bikes) },
		"a bike's satellite":        func(p *plan.Plan) { p.Bikes[0].Sat++ },
		"the last bike's satellite": func(p *plan.Plan) { p.Bikes[2].Sat-- },
		"a customer":                func(p *plan.Plan) { p.Bikes[0].Stops[1]++ },
		"the last customer":         func(p *plan.Plan) { p.Bikes[2].Stops[0]++ },
		"a bike's stop less":        func(p *plan.Plan) { p.Bikes[0].Stops = p.Bikes[0].Stops[1:] },
		"a bike's only stop less":   func(p *plan.Plan) { p.Bikes[1].Stops = nil },
		"a bike's stop more":        func(p *plan.Plan) { p.Bikes[1].Stops = append(p.Bikes[1].Stops, 0) },
		"a bike the other way":      func(p *plan.Plan) { slices.Reverse(p.Bikes[0].Stops) },
		"a stop on another bike":    func(p *plan.Plan) { p.Bikes[0].Stops, p.Bikes[2].Stops = []int{1}, []int{0, 2} },
		"nothing":                   func(p *plan.Plan) { *p = plan.Plan{} },
	} {
		_, other := some()
		change(&other)
		sames(t, what, p, other, false)
		sames(t, what+", of both", other, other, true)
	}
	none := plan.Plan{Trucks: []plan.Truck{}, Bikes: []plan.Bike{}}
	sames(t, "none", none, plan.Plan{}, true)
	a := plan.Plan{Trucks: []plan.Truck{{}}, Bikes: []plan.Bike{{Sat: 3}}}
	b := plan.Plan{Trucks: []plan.Truck{{Stops: []plan.Stop{}}}, Bikes: []plan.Bike{{Sat: 3, Stops: []int{}}}}
	sames(t, "without stops", a, b, true)
	sames(t, "without stops, and without vehicles", a, none, false)
	b.Bikes[0].Sat = lowest
	sames(t, "of whatever satellite", a, b, false)
}

// TestSameAtRandom: P17.3: whatever becomes otherwise is told, just where the numbers differ.
func TestSameAtRandom(t *testing.T) {
	r := rand.New(rand.NewSource(4))
	for range 5000 {
		x, p := made(r, 1+r.Intn(4), 1+r.Intn(6))
		other := p.Clone()
		spoil(r, &x, &other)
		sames(t, "at random", p, other, fmt.Sprint(p) == fmt.Sprint(other))
	}
}

// wipe: each number of a plan, up to where the lists' memory ends, becomes another one.
func wipe(p plan.Plan) {
	for _, t := range p.Trucks[:cap(p.Trucks)] {
		for i := range t.Stops[:cap(t.Stops)] {
			t.Stops[:cap(t.Stops)][i] = plan.Stop{Sat: -7, Load: -8}
		}
	}
	for _, b := range p.Bikes[:cap(p.Bikes)] {
		for i := range b.Stops[:cap(b.Stops)] {
			b.Stops[:cap(b.Stops)][i] = -7
		}
	}
	for i := range p.Trucks[:cap(p.Trucks)] {
		p.Trucks[:cap(p.Trucks)][i] = truck(-1, -1)
	}
	for i := range p.Bikes[:cap(p.Bikes)] {
		p.Bikes[:cap(p.Bikes)][i] = bike(-1, -1)
	}
}

// TestClone: P17.3: the same, whatever becomes of the one it is of, and the other way.
func TestClone(t *testing.T) {
	for what, p := range map[string]plan.Plan{
		"nothing":        {},
		"empty lists":    {Trucks: []plan.Truck{}, Bikes: []plan.Bike{}},
		"empty vehicles": {Trucks: []plan.Truck{{}, {Stops: []plan.Stop{}}}, Bikes: []plan.Bike{{Sat: 4}, {Sat: 5, Stops: []int{}}}},
		"what may not be": {
			Trucks: []plan.Truck{truck(lowest, most, most, lowest), truck(-1, 0)},
			Bikes:  []plan.Bike{bike(lowest, most, lowest), bike(most)},
		},
	} {
		sames(t, what, p, p.Clone(), true)
	}
	_, want := some()
	_, p := some()
	own := p.Clone()
	sames(t, "as it is", own, want, true)
	wipe(p)
	sames(t, "when the other one is changed", own, want, true)
	_, p = some()
	p = spared(p)
	own = p.Clone()
	wipe(own)
	sames(t, "the other one, when it is changed", p, want, true)
	behind(t, "Clone", p)
	r := rand.New(rand.NewSource(5))
	for range 200 {
		_, p := made(r, 1+r.Intn(sats), 1+r.Intn(customers))
		was := fmt.Sprint(p)
		own := p.Clone()
		if got := fmt.Sprint(own); got != was {
			t.Errorf("Clone of %s is %s", was, got)
		}
		wipe(own)
		if got := fmt.Sprint(p); got != was {
			t.Errorf("%s becomes %s", was, got)
		}
	}
}

// spare: a list with room behind it, in which the rest stands.
func spare[T any](l []T, rest ...T) []T {
	return append(slices.Clone(l), rest...)[:len(l)]
}

// spared: a plan, behind each of whose lists something stands.
func spared(p plan.Plan) plan.Plan {
	p.Trucks, p.Bikes = spare(p.Trucks, truck(1, 1)), spare(p.Bikes, bike(2, 2))
	for i, t := range p.Trucks {
		p.Trucks[i].Stops = spare(t.Stops, plan.Stop{Sat: 5, Load: 6})
	}
	for i, b := range p.Bikes {
		p.Bikes[i].Stops = spare(b.Stops, 7, 8)
	}
	return p
}

// behind: that must still stand there.
func behind(t *testing.T, what string, p plan.Plan) {
	t.Helper()
	rest := plan.Plan{Trucks: p.Trucks[len(p.Trucks) : len(p.Trucks)+1], Bikes: p.Bikes[len(p.Bikes) : len(p.Bikes)+1]}
	sames(t, what+": behind the vehicles", rest, plan.Plan{Trucks: []plan.Truck{truck(1, 1)}, Bikes: []plan.Bike{bike(2, 2)}}, true)
	for _, truck := range p.Trucks {
		if n := len(truck.Stops); truck.Stops[:n+1][n] != (plan.Stop{Sat: 5, Load: 6}) {
			t.Errorf("%s: what is behind a truck's stops is changed", what)
		}
	}
	for _, b := range p.Bikes {
		if n := len(b.Stops); !slices.Equal(b.Stops[n:n+2], []int{7, 8}) {
			t.Errorf("%s: what is behind a bike's stops is changed", what)
		}
	}
}

// TestLeavesWhatItGets: R5: neither a plan, nor an instance, nor spare room is changed.
func TestLeavesWhatItGets(t *testing.T) {
	r := rand.New(rand.NewSource(6))
	for range 20 {
		x, p := made(r, 1+r.Intn(4), 1+r.Intn(9))
		was, want := x.Clone(), fmt.Sprint(p)
		x.Sats, x.Customers = spare(x.Sats, inst.Sat{Room: 5}), spare(x.Customers, inst.Customer{Load: 5})
		for i, row := range x.Cost {
			x.Cost[i] = spare(row, 5, 6)
		}
		p = spared(p)
		check(t, "spare room", x, p, api.OK)
		loads := plan.Loads(x, p.Bikes)
		var left []int64
		for s := range x.Sats {
			left = append(left, 0)
			for _, truck := range p.Trucks {
				for _, stop := range truck.Stops {
					if stop.Sat == s {
						left[s] += stop.Load
					}
				}
			}
		}
		if !slices.Equal(loads, left) {
			t.Errorf("with spare room Loads are %v, not %v", loads, left)
		}
		nodes := spare(p.Bikes[0].Nodes(x), 9)
		ways(t, "spare room", x, round(x, nodes), nodes...)
		if nodes[:len(nodes)+1][len(nodes)] != 9 {
			t.Errorf("what is behind a way's nodes is changed")
		}
		p.Trucks[0].Nodes(x)
		behind(t, "all calls", p)
		if got := fmt.Sprint(p); got != want {
			t.Errorf("of %s they leave %s", want, got)
		}
		if !inst.Same(x, was) {
			t.Errorf("they leave %v, not %v", x, was)
		}
		n, m := len(x.Sats), len(x.Customers)
		if x.Sats[:n+1][n] != (inst.Sat{Room: 5}) || x.Customers[:m+1][m] != (inst.Customer{Load: 5}) {
			t.Errorf("what is behind satellites or customers is changed")
		}
		for _, row := range x.Cost {
			if n := len(row); !slices.Equal(row[n:n+2], []int64{5, 6}) {
				t.Errorf("what is behind a row is changed")
			}
		}
	}
}

// TestSameAgain: R5, R6: answers are new memory, and the same again.
func TestSameAgain(t *testing.T) {
	x, p := some()
	for range 3 {
		check(t, "again", x, p, api.OK)
		loads := plan.Loads(x, p.Bikes)
		if !slices.Equal(loads, []int64{9, 5, 0}) {
			t.Errorf("again Loads are %v", loads)
		}
		b, truck := p.Bikes[0].Nodes(x), p.Trucks[0].Nodes(x)
		if !slices.Equal(b, []int{1, 5, 4}) || !slices.Equal(truck, []int{0, 1, 2}) {
			t.Errorf("again the nodes are %v, %v", b, truck)
		}
		for i := range loads[:cap(loads)] {
			loads[:cap(loads)][i] = -1
		}
		for _, l := range [][]int{b[:cap(b)], truck[:cap(truck)]} {
			for i := range l {
				l[i] = -1
			}
		}
	}
	if _, want := some(); !plan.Same(p, want) {
		t.Errorf("the plan becomes %v", p)
	}
}

// wrong: instances that may not be.
func wrong() map[string]inst.Instance {
	l := map[string]inst.Instance{"nothing": {}}
	for what, change := range map[string]func(x *inst.Instance){
		"End too great":          func(x *inst.Instance) { x.End = great + 1 },
		"no truck":               func(x *inst.Instance) { x.Trucks.Many = 0 },
		"trucks below none":      func(x *inst.Instance) { x.Trucks.Many = lowest },
		"too many bikes":         func(x *inst.Instance) { x.Bikes.Many = fleet + 1 },
		"bikes' Room below 0":    func(x *inst.Instance) { x.Bikes.Room = lowest },
		"trucks' Room too great": func(x *inst.Instance) { x.Trucks.Room = most },
		"no satellite":           func(x *inst.Instance) { x.Sats = nil },
		"a satellite less":       func(x *inst.Instance) { x.Sats = x.Sats[:2] },
		"too many satellites":    func(x *inst.Instance) { *x = of(sats+1, 4, 2, 3, 5) },
		"Room too great":         func(x *inst.Instance) { x.Sats[2].Room = great + 1 },
		"Hold below 0":           func(x *inst.Instance) { x.Sats[1].Hold = -1 },
		"no customer":            func(x *inst.Instance) { x.Customers = nil },
		"a customer more":        func(x *inst.Instance) { x.Customers = append(x.Customers, x.Customers[0]) },
		"too many customers":     func(x *inst.Instance) { *x = of(3, same(customers+1, 2)...) },
		"more than a set holds":  func(x *inst.Instance) { *x = of(3, same(100, 2)...) },
		"Load 0":                 func(x *inst.Instance) { x.Customers[0].Load = 0 },
		"Load too great":         func(x *inst.Instance) { x.Customers[0].Load = most },
		"Close ahead of Open":    func(x *inst.Instance) { x.Customers[0].Open, x.Customers[0].Close = 5, 4 },
		"no Cost":                func(x *inst.Instance) { x.Cost = nil },
		"Cost below 0":           func(x *inst.Instance) { x.Cost[0][1] = -1 },
		"Cost too great":         func(x *inst.Instance) { x.Cost[7][6] = great + 1 },
		"Cost where one is":      func(x *inst.Instance) { x.Cost[4][4] = 1 },
		"a row of Time less":     func(x *inst.Instance) { x.Time = x.Time[1:] },
		"a shorter row of Cost":  func(x *inst.Instance) { x.Cost[5] = x.Cost[5][1:] },
		"no row of Cost":         func(x *inst.Instance) { x.Cost[1] = nil },
		"Time below 0":           func(x *inst.Instance) { x.Time[6][7] = -1 },
	} {
		x, _ := some()
		change(&x)
		l[what] = x
	}
	return l
}

// TestWrong: P17.1, P17.2: the instance's error, ahead of any of the plan; no Way; Nodes and Loads are told, whatever it is.
func TestWrong(t *testing.T) {
	for what, x := range wrong() {
		code := x.Check()
		if code == api.OK {
			t.Errorf("%s: Check has no error", what)
		}
		for _, f := range faults() {
			other, p := some()
			check(t, what, x, p, code)
			f.change(&other, &p)
			check(t, what+", "+f.what, x, p, code)
		}
		check(t, what, x, plan.Plan{}, code)
		many := plan.Plan{Trucks: make([]plan.Truck, 100), Bikes: make([]plan.Bike, 100)}
		check(t, what+", and too many", x, many, code)
		ways(t, what, x, 0)
		ways(t, what, x, 0, 0, 1, 2)
		ways(t, what, x, 0, 6, 7)
		ways(t, what, x, 0, -1)
		if l := bike(2, 0).Nodes(x); !slices.Equal(l, []int{3, 1 + len(x.Sats)}) {
			t.Errorf("%s: the nodes are %v", what, l)
		}
		if l := plan.Loads(x, nil); len(l) != len(x.Sats) || slices.ContainsFunc(l, func(n int64) bool { return n != 0 }) {
			t.Errorf("%s: Loads of none are %v", what, l)
		}
	}
}
