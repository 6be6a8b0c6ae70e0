package block_test

import (
	"fmt"
	"math"
	"math/rand"
	"slices"
	"testing"

	"wharfage/api"
	"wharfage/block"
	"wharfage/inst"
	"wharfage/reach"
	"wharfage/set"
)

const (
	lowest, most = math.MinInt64, math.MaxInt64
	great        = 1000000000 // The greatest number of an instance.
	sats         = 12         // The most satellites.
	customers    = 48         // The most customers.
	never        = 100        // What takes so long is too late.
)

// square: a matrix of n rows of n numbers: from a node to itself 0, else what is told.
func square(n int, next func(i, k int) int64) [][]int64 {
	l := make([][]int64, n)
	for i := range l {
		l[i] = make([]int64, n)
		for k := range l[i] {
			if i != k {
				l[i][k] = next(i, k)
			}
		}
	}
	return l
}

// of: an instance of satellites with these Rooms, of customers with these Loads; for each satellite who may be served from it in time. Fleets have room for all.
func of(rooms, loads []int64, mays ...set.Set) inst.Instance {
	x := inst.Instance{End: 10, Trucks: inst.Fleet{Many: 60, Room: great}, Bikes: inst.Fleet{Many: 60, Room: great}}
	for _, n := range rooms {
		x.Sats = append(x.Sats, inst.Sat{Room: n})
	}
	for _, n := range loads {
		x.Customers = append(x.Customers, inst.Customer{Load: n, Close: 10})
	}
	x.Cost = square(x.Nodes(), func(_, _ int) int64 { return 1 })
	x.Time = square(x.Nodes(), func(i, k int) int64 {
		from, to := i-1-len(rooms), k-1-len(rooms)
		if from >= 0 && to >= 0 || i > 0 && from < 0 && to >= 0 && !mays[i-1].Has(to) {
			return never
		}
		return 1
	})
	return x
}

// same: so many times the same number.
func same(many int, n int64) []int64 { return slices.Repeat([]int64{n}, many) }

// first: the set of the first customers.
func first(n int) set.Set { return 1<<n - 1 }

// document: the chapter's example.
func document() inst.Instance { return of([]int64{6}, []int64{3, 4}, 3) }

// whole: the document's example of all of it: there is no block.
func whole() inst.Instance {
	x := of([]int64{9}, []int64{5}, 1)
	x.End, x.Trucks, x.Bikes = 40, inst.Fleet{Many: 1, Room: 9}, inst.Fleet{Many: 1, Room: 9}
	x.Sats[0].Hold, x.Customers[0] = 3, inst.Customer{Load: 5, Open: 9, Close: 20, Stay: 1}
	x.Cost = square(3, func(_, _ int) int64 { return 2 })
	x.Time = square(3, func(_, _ int) int64 { return 4 })
	return x
}

// counts: Counts must be these.
func counts(t *testing.T, what string, x inst.Instance, want ...int) {
	t.Helper()
	if e := x.Check(); e != api.OK {
		t.Fatalf("%s: Check is %d", what, e)
	}
	if l := block.Counts(x); !slices.Equal(l, want) {
		t.Errorf("%s: Counts is %v, not %v", what, l, want)
	}
}

// finds: Find must tell this block, which must be one; none, if its kind is None.
func finds(t *testing.T, what string, x inst.Instance, want block.Block) {
	t.Helper()
	if e := x.Check(); e != api.OK {
		t.Fatalf("%s: Check is %d", what, e)
	}
	b, ok := block.Find(x)
	if b != want || ok != (want.Kind != block.None) {
		t.Errorf("%s: Find is %v, %v, not %v", what, b, ok, want)
	}
	if block.Right(x, b) != ok {
		t.Errorf("%s: Right of %v is %v", what, b, !ok)
	}
}

// right: whether that must be a block.
func right(t *testing.T, what string, x inst.Instance, b block.Block, want bool) {
	t.Helper()
	if block.Right(x, b) != want {
		t.Errorf("%s: Right of %v is %v", what, b, !want)
	}
}

func TestExamples(t *testing.T) {
	counts(t, "the chapter's", document(), 1)
	finds(t, "the chapter's", document(), block.Block{Kind: block.Load, Set: set.Of(0, 1)})
	counts(t, "the document's", whole(), 1)
	finds(t, "the document's", whole(), block.Block{})
}

// TestCounts: P15.1: as many as there are of the least Loads of its Mays, within its own Room.
func TestCounts(t *testing.T) {
	for _, c := range []struct {
		what  string
		rooms []int64
		loads []int64
		mays  []set.Set
		want  []int
	}{
		{"all, to the last bit", []int64{9}, []int64{2, 3, 4}, []set.Set{7}, []int{3}},
		{"a bit too much for all", []int64{8}, []int64{2, 3, 4}, []set.Set{7}, []int{2}},
		{"two, to the last bit", []int64{5}, []int64{2, 3, 4}, []set.Set{7}, []int{2}},
		{"a bit too much for two", []int64{4}, []int64{2, 3, 4}, []set.Set{7}, []int{1}},
		{"one, to the last bit", []int64{2}, []int64{2, 3, 4}, []set.Set{7}, []int{1}},
		{"a bit too much for one", []int64{1}, []int64{2, 3, 4}, []set.Set{7}, []int{0}},
		{"no Room", []int64{0}, []int64{2, 3, 4}, []set.Set{7}, []int{0}},
		{"the least of them, not the first", []int64{6}, []int64{6, 5, 1, 2, 3}, []set.Set{31}, []int{3}},
		{"the least ones of those that may be", []int64{6}, []int64{6, 5, 1, 2, 3}, []set.Set{19}, []int{1}},
		{"nobody may be", []int64{6}, []int64{1, 1}, []set.Set{0}, []int{0}},
		{"till the first that is too much", []int64{10}, []int64{4, 4, 4, 3, 4}, []set.Set{31}, []int{2}},
		{"not those of whom each is too much", []int64{5}, []int64{6, 7, 8}, []set.Set{7}, []int{0}},
		{"each satellite its own", []int64{3, 6, 100}, []int64{1, 2, 3, 4}, []set.Set{15, 14, 12}, []int{2, 2, 2}},
		{"all of all", []int64{100, 100}, []int64{1, 2, 3}, []set.Set{7, 7}, []int{3, 3}},
	} {
		counts(t, c.what, of(c.rooms, c.loads, c.mays...), c.want...)
	}
	x := of([]int64{20}, []int64{9, 8, 7, 6}, 15)
	x.Bikes = inst.Fleet{Many: 1, Room: 7}
	counts(t, "whom a bike has no room for is none of its Mays", x, 2)
	x.Bikes, x.Trucks = inst.Fleet{Many: 1, Room: 9}, inst.Fleet{Many: 1}
	counts(t, "how many bikes there are is nothing to it, nor what trucks bring", x, 2)
}

// TestRightAtEdges: P15.1: each kind, up to where it is one.
func TestRightAtEdges(t *testing.T) {
	big, late := block.Block{Kind: block.Big, Who: 1}, block.Block{Kind: block.Late, Who: 1}
	load, count := block.Block{Kind: block.Load, Set: 3}, block.Block{Kind: block.Count, Set: 7}
	trucks, bikes := block.Block{Kind: block.Trucks}, block.Block{Kind: block.Bikes}
	for _, c := range []struct {
		what   string
		b      block.Block
		change func(x *inst.Instance, n int64)
		last   int64 // The last number by which it is a block.
		up     bool  // It is one by the greater ones, too, not by the lesser ones.
	}{
		{"Load, above the bikes' Room", big, func(x *inst.Instance, n int64) { x.Customers[1].Load = n }, great + 1 - 90, true},
		{"the bikes' Room", big, func(x *inst.Instance, n int64) { x.Bikes.Room, x.Customers[1].Load = n, 40 }, 39, false},
		{"Close", late, func(x *inst.Instance, n int64) { x.Customers[1].Close = n }, 1, false},
		{"End", late, func(x *inst.Instance, n int64) { x.End = n }, 2, false},
		{"each satellite's Room", late, func(x *inst.Instance, n int64) { x.Sats[0].Room, x.Sats[1].Room = n, n }, 3, false},
		{"one satellite's Room", late, func(x *inst.Instance, n int64) { x.Sats[0].Room, x.Sats[1].Room = 0, n }, 3, false},
		{"the trucks' Room", trucks, func(x *inst.Instance, n int64) { x.Trucks = inst.Fleet{Many: 3, Room: n} }, 3, false},
		{"how many trucks", trucks, func(x *inst.Instance, n int64) { x.Trucks = inst.Fleet{Many: int(n), Room: 3} }, 3, false},
		{"a Load, by trucks", trucks, func(x *inst.Instance, n int64) { x.Trucks, x.Customers[2].Load = inst.Fleet{Many: 1, Room: 12}, n }, 6, true},
		{"the bikes' Room, for all", bikes, func(x *inst.Instance, n int64) { x.Bikes = inst.Fleet{Many: 3, Room: n} }, 3, false},
		{"how many bikes", bikes, func(x *inst.Instance, n int64) { x.Bikes = inst.Fleet{Many: int(n), Room: 3} }, 3, false},
		{"a Load, by bikes", bikes, func(x *inst.Instance, n int64) { x.Bikes, x.Customers[2].Load = inst.Fleet{Many: 1, Room: 12}, n }, 6, true},
		{"Rooms of both satellites", load, func(x *inst.Instance, n int64) { x.Sats[0].Room, x.Sats[1].Room = 4, n }, 2, false},
		{"a Load, by both satellites", load, func(x *inst.Instance, n int64) { x.Sats[0].Room, x.Sats[1].Room, x.Customers[0].Load = 4, 4, n }, 5, true},
		{"Room of a satellite that has none of them", block.Block{Kind: block.Load, Set: 4}, func(x *inst.Instance, n int64) { x.Sats[1].Room = n }, 4, false},
		{"a Room, by Counts", count, func(x *inst.Instance, n int64) { x.Sats[0].Room, x.Sats[1].Room = 4, n }, 6, false},
		{"a Room, by Counts of one", block.Block{Kind: block.Count, Set: 6}, func(x *inst.Instance, n int64) { x.Sats[0].Room, x.Sats[1].Room = 3, n }, 6, false},
	} {
		for _, d := range []int64{-1, 0, 1} {
			// The customers 0 and 1 may be served from both, 2 from the second one; all Loads are 12.
			x := of([]int64{90, 90}, []int64{3, 4, 5}, 3, 7)
			x.Bikes.Room = great - 90
			c.change(&x, c.last+d)
			if e := x.Check(); e != api.OK {
				t.Errorf("%s %d: Check is %d", c.what, c.last+d, e)
			}
			right(t, fmt.Sprint(c.what, " ", c.last+d), x, c.b, d == 0 || c.up == (d > 0))
		}
	}
}

// TestRightOfSets: whom a block of some customers names, and by which satellites.
func TestRightOfSets(t *testing.T) {
	// 0 may be served from the first satellite, 1 from both, 2 from the second one, 3 from the third one, 4 from none.
	x := of([]int64{5, 6, 7}, []int64{5, 5, 5, 7, 1}, 3, 6, 8)
	counts(t, "the sets'", x, 1, 1, 1)
	for _, c := range []struct {
		l           set.Set
		load, count bool
	}{
		{set.Of(), false, false},
		{set.Of(0), false, false},
		{set.Of(1), false, false},
		{set.Of(2), false, false},
		{set.Of(3), false, false},
		{set.Of(4), true, true},
		{set.Of(0, 1), false, false},
		{set.Of(0, 2), false, false},
		{set.Of(0, 1, 2), true, true},
		{set.Of(0, 1, 2, 3), true, true},
		{set.Of(0, 1, 3), false, false},
		{set.Of(0, 4), true, true},
		{set.Of(1, 4), false, false},
		{set.Of(0, 2, 4), false, true},
		{set.Of(0, 1, 2, 3, 4), true, true},
	} {
		right(t, "Load", x, block.Block{Kind: block.Load, Set: c.l}, c.load)
		right(t, "Count", x, block.Block{Kind: block.Count, Set: c.l}, c.count)
	}
}

// TestRightOfOthers: what isn't named is 0; who is named is a customer; no other kind is one.
func TestRightOfOthers(t *testing.T) {
	// All kinds are blocks of it: 0 is too great a customer, and 0 and 1 are too late.
	x := of([]int64{5}, []int64{9, 1, 6, 5}, 12)
	x.Bikes, x.Trucks = inst.Fleet{Many: 1, Room: 8}, inst.Fleet{Many: 1, Room: 20}
	blocks := []block.Block{
		{Kind: block.Big, Who: 0}, {Kind: block.Late, Who: 0}, {Kind: block.Late, Who: 1}, {Kind: block.Trucks}, {Kind: block.Bikes},
		{Kind: block.Load, Set: 15}, {Kind: block.Count, Set: 15}, {Kind: block.Load, Set: 12}, {Kind: block.Count, Set: 12},
	}
	for _, b := range blocks {
		right(t, "as it is", x, b, true)
		for _, n := range []int{-1, 4, 48, 63, 64, 1 << 32, -1 << 32, lowest, most} {
			right(t, "no such customer", x, block.Block{Kind: b.Kind, Who: n, Set: b.Set}, false)
			if n >= 4 && n < 64 {
				right(t, "no such customer beside", x, block.Block{Kind: b.Kind, Who: b.Who, Set: b.Set.With(n)}, false)
			}
		}
		for _, kind := range []block.Kind{block.None, block.Kinds, block.Kinds + 1, -1, 1 << 32, -1 << 32, lowest, most} {
			right(t, "no such kind", x, block.Block{Kind: kind, Who: b.Who, Set: b.Set}, false)
		}
		if b.Kind <= block.Bikes {
			right(t, "customers that aren't named", x, block.Block{Kind: b.Kind, Who: b.Who, Set: 1}, false)
			right(t, "customers that aren't named", x, block.Block{Kind: b.Kind, Who: b.Who, Set: 1 << 63}, false)
		}
		if b.Kind >= block.Trucks {
			right(t, "a customer that isn't named", x, block.Block{Kind: b.Kind, Who: 1, Set: b.Set}, false)
			right(t, "a customer that isn't named", x, block.Block{Kind: b.Kind, Who: 3, Set: b.Set}, false)
		}
	}
	right(t, "another one is too great", x, block.Block{Kind: block.Big, Who: 1}, false)
	right(t, "another one is too late", x, block.Block{Kind: block.Late, Who: 3}, false)
	right(t, "none at all", x, block.Block{}, false)
}

// TestOrder: P15.2: the kinds, one behind the other, as each that is told is mended.
func TestOrder(t *testing.T) {
	x := of([]int64{9, 9}, []int64{5, 20, 5, 30, 5}, 5, 21)
	x.Trucks, x.Bikes = inst.Fleet{Many: 2, Room: 7}, inst.Fleet{Many: 2, Room: 9}
	finds(t, "two too great, one of them first", x, block.Block{Kind: block.Big, Who: 1})
	x.Customers[1].Load = 5
	finds(t, "another one too great", x, block.Block{Kind: block.Big, Who: 3})
	x.Customers[3].Load = 5
	finds(t, "two too late", x, block.Block{Kind: block.Late, Who: 1})
	x.Time[1][4] = 1
	finds(t, "another one too late", x, block.Block{Kind: block.Late, Who: 3})
	x.Time[1][6] = 1
	finds(t, "too little room on trucks", x, block.Block{Kind: block.Trucks})
	x.Trucks.Many = 4
	finds(t, "too little room on bikes", x, block.Block{Kind: block.Bikes})
	x.Bikes.Many = 3
	finds(t, "too little Room", x, block.Block{Kind: block.Load, Set: 31})
	x.Sats[0].Room, x.Sats[1].Room = 11, 14
	finds(t, "too little Room for one each", x, block.Block{Kind: block.Count, Set: 31})
	x.Sats[1].Room = 15
	finds(t, "nothing is wrong", x, block.Block{})
}

// TestLeastCustomer: P15.2: of Big and of Late the first one there is, the last one, too.
func TestLeastCustomer(t *testing.T) {
	for c := range customers {
		x := of([]int64{great}, same(customers, 2), first(customers))
		x.Customers[c].Load, x.Customers[customers-1].Load, x.Bikes.Room = 3, 3, 2
		finds(t, fmt.Sprint(c, " too great"), x, block.Block{Kind: block.Big, Who: c})
		x = of([]int64{great, great}, same(customers, 2), first(customers).Without(c).Without(customers-1), set.Of(20).Without(c).Without(customers-1))
		finds(t, fmt.Sprint(c, " too late"), x, block.Block{Kind: block.Late, Who: c})
	}
}

// TestFewest: P15.2: of all that fall short most the fewest.
func TestFewest(t *testing.T) {
	load := func(l ...int) block.Block { return block.Block{Kind: block.Load, Set: set.Of(l...)} }
	count := func(l ...int) block.Block { return block.Block{Kind: block.Count, Set: set.Of(l...)} }
	for _, c := range []struct {
		what  string
		rooms []int64
		loads []int64
		mays  []set.Set
		want  block.Block
	}{
		{"all", []int64{6}, []int64{3, 4}, []set.Set{3}, load(0, 1)},
		{"as many as may be, where each makes it worse", []int64{3}, []int64{3, 3, 3}, []set.Set{7}, load(0, 1, 2)},
		{"not who gets all", []int64{6, 5}, []int64{3, 4, 5}, []set.Set{3, 4}, load(0, 1)},
		{"not who might get more", []int64{6, 9}, []int64{3, 4, 5}, []set.Set{3, 4}, load(0, 1)},
		{"who falls short by himself, too", []int64{6, 5}, []int64{3, 4, 3, 3}, []set.Set{3, 12}, load(0, 1, 2, 3)},
		{"two of which the second falls short more", []int64{6, 6}, []int64{3, 4, 6, 6}, []set.Set{3, 12}, load(0, 1, 2, 3)},
		{"with whom it is worse, though by another satellite, too", []int64{6, 5}, []int64{5, 5, 6}, []set.Set{7, 3}, load(0, 1, 2)},
		{"with whom it is as bad, from the same satellite and another one", []int64{4, 4}, []int64{3, 3, 4}, []set.Set{7, 4}, load(0, 1)},
		{"with whom it is as bad by another satellite", []int64{4, 4}, []int64{3, 3, 4}, []set.Set{3, 4}, load(0, 1)},
		{"the last ones", []int64{9, 5}, []int64{2, 2, 3, 3}, []set.Set{3, 12}, load(2, 3)},
		{"none", []int64{6, 6}, []int64{3, 3, 3, 3}, []set.Set{3, 12}, block.Block{}},
		{"none, from one satellite or from the other one", []int64{6, 6}, []int64{3, 3, 3, 3}, []set.Set{15, 15}, block.Block{}},
		{"a count", []int64{5, 5}, []int64{3, 3, 3}, []set.Set{7, 7}, count(0, 1, 2)},
		{"a count of some", []int64{5, 5, 3}, []int64{3, 3, 3, 3}, []set.Set{7, 7, 8}, count(0, 1, 2)},
		{"a count of two lots", []int64{5, 5, 5, 5}, []int64{3, 3, 3, 3, 3, 3}, []set.Set{7, 7, 56, 56}, count(0, 1, 2, 3, 4, 5)},
		{"a Load, though a count falls short more", []int64{10, 10, 3}, []int64{6, 6, 6, 2, 2}, []set.Set{7, 7, 24}, load(3, 4)},
		{"a count by one too great for both Rooms left", []int64{5, 4}, []int64{3, 3, 3}, []set.Set{7, 7}, count(0, 1, 2)},
	} {
		finds(t, c.what, of(c.rooms, c.loads, c.mays...), c.want)
	}
}

// seen is an instance, and what is told of it by layer 14, so that it needn't be asked anew.
type seen struct {
	x    inst.Instance
	mays []set.Set
}

// look: an instance, with that.
func look(x inst.Instance) seen { return seen{x, reach.Mays(x)} }

// counts: the chapter's word, by all subsets of Mays: how many has the greatest one whose Loads are within Room?
func (v seen) counts() []int {
	l := make([]int, len(v.mays))
	for s, may := range v.mays {
		for n := may; n != 0; n = (n - 1) & may {
			load := int64(0)
			for _, c := range n.All() {
				load += v.x.Customers[c].Load
			}
			if load <= v.x.Sats[s].Room && n.Len() > l[s] {
				l[s] = n.Len()
			}
		}
	}
	return l
}

// short: how much falls short of what some customers need: of Load, and of places.
func (v seen) short(counts []int, l set.Set) (int64, int64) {
	load, count := int64(0), int64(l.Len())
	for _, c := range l.All() {
		load += v.x.Customers[c].Load
	}
	for s, may := range v.mays {
		if may&l != 0 {
			load -= v.x.Sats[s].Room
			count -= int64(counts[s])
		}
	}
	return load, count
}

// plain: the chapter's words of the first four kinds, of a customer; true: it is that.
func (v seen) plain(kind block.Kind, c int) bool {
	all := int64(0)
	for _, who := range v.x.Customers {
		all += who.Load
	}
	switch kind {
	case block.Big:
		return v.x.Customers[c].Load > v.x.Bikes.Room
	case block.Late:
		return !slices.ContainsFunc(v.mays, func(may set.Set) bool { return may.Has(c) })
	case block.Trucks:
		return c == 0 && int64(v.x.Trucks.Many)*v.x.Trucks.Room < all
	case block.Bikes:
		return c == 0 && int64(v.x.Bikes.Many)*v.x.Bikes.Room < all
	}
	return false
}

// find: P15.2's words; of Load and Count by all sets of a list.
func (v seen) find(t *testing.T, counts []int, sets []set.Set) block.Block {
	t.Helper()
	for kind := block.Big; kind <= block.Bikes; kind++ {
		for c := range v.x.Customers {
			if v.plain(kind, c) {
				return block.Block{Kind: kind, Who: c}
			}
		}
	}
	for kind := block.Load; kind <= block.Count; kind++ {
		best, worst, ties := set.Set(0), int64(0), 0
		for _, l := range sets {
			load, count := v.short(counts, l)
			much := load
			if kind == block.Count {
				much = count
			}
			switch {
			case much > worst || much == worst && l.Len() < best.Len():
				best, worst, ties = l, much, 0
			case much == worst && l.Len() == best.Len() && l != best:
				ties++
			}
		}
		if ties > 0 {
			t.Fatalf("of %v there are %d as short as %v", v.x, ties+1, best.All())
		}
		if worst > 0 {
			return block.Block{Kind: kind, Set: best}
		}
	}
	return block.Block{}
}

// subsets: all sets of the first customers.
func subsets(many int) []set.Set {
	l := make([]set.Set, 1<<many)
	for i := range l {
		l[i] = set.Set(i)
	}
	return l
}

// shut: for each set of satellites those customers that may be served from these alone: whoever falls short most is one of these sets, since all others of it would fall short as well.
func (v seen) shut() []set.Set {
	l := make([]set.Set, 1<<len(v.mays))
	for i := range l {
		l[i] = first(len(v.x.Customers))
		for s, may := range v.mays {
			if i&(1<<s) == 0 {
				l[i] = l[i].Less(may)
			}
		}
	}
	return l
}

// drawn: an instance of so many satellites and customers, so that some may be served, by time and by room, and some not.
func drawn(r *rand.Rand, s, c int) inst.Instance {
	odds, much := 1+r.Intn(4), 1+r.Int63n(9)
	mays := make([]set.Set, s)
	for i := range mays {
		for k := range c {
			if r.Intn(4) < odds {
				mays[i] = mays[i].With(k)
			}
		}
	}
	for k := range c {
		mays[r.Intn(s)] |= 1 << k
	}
	loads, all := make([]int64, c), int64(0)
	for k := range loads {
		loads[k] = 1 + r.Int63n(much)
		all += loads[k]
	}
	rooms := make([]int64, s)
	for i := range rooms {
		rooms[i] = much + r.Int63n(2*all/int64(s)+1)
	}
	x := of(rooms, loads, mays...)
	x.Trucks.Room, x.Bikes.Room = 1+r.Int63n(2*all), much
	x.Trucks.Many, x.Bikes.Many = 1+r.Intn(6), 1+r.Intn(c+2)
	return mended(r, x, all)
}

// mended: mostly, fleets have room for all, so that satellites matter; now and then one customer is too great, or too late.
func mended(r *rand.Rand, x inst.Instance, all int64) inst.Instance {
	if r.Intn(4) > 0 {
		x.Trucks.Room = all
	}
	if r.Intn(6) > 0 {
		x.Bikes.Many = 60
	}
	c := r.Intn(len(x.Customers))
	switch r.Intn(20) {
	case 0:
		x.Customers[c].Load = x.Bikes.Room + 1
	case 1:
		x.Customers[c].Close = 0
	case 2:
		x.Bikes.Room = max(1, x.Bikes.Room-1)
	}
	return x
}

// TestAtRandom: P15.1, P15.2: little ones, by all sets of customers.
func TestAtRandom(t *testing.T) {
	r := rand.New(rand.NewSource(1))
	var kinds [block.Kinds]int
	for range 1500 {
		draw := []func(r *rand.Rand, s, c int) inst.Instance{drawn, drawn, crowded}[r.Intn(3)]
		v := look(draw(r, 1+r.Intn(4), 1+r.Intn(8)))
		sets := subsets(len(v.x.Customers))
		want := v.counts()
		counts(t, "at random", v.x, want...)
		b := v.find(t, want, sets)
		finds(t, fmt.Sprintf("at random %v", v.x), v.x, b)
		kinds[b.Kind]++
		for c := range v.x.Customers {
			for kind := block.Big; kind <= block.Bikes; kind++ {
				right(t, "at random", v.x, block.Block{Kind: kind, Who: c}, v.plain(kind, c))
			}
		}
		for range 5 {
			l := sets[r.Intn(len(sets))]
			load, count := v.short(want, l)
			right(t, "at random", v.x, block.Block{Kind: block.Load, Set: l}, load > 0)
			right(t, "at random", v.x, block.Block{Kind: block.Count, Set: l}, count > 0)
		}
	}
	for kind, many := range kinds {
		if many < 20 {
			t.Errorf("only %d are of kind %d", many, kind)
		}
	}
}

// taken: how many of some Loads are within a Room, if the least one left is taken again and again.
func taken(loads []int64, room int64) int {
	for many := 0; ; many++ {
		if len(loads) == 0 || slices.Min(loads) > room {
			return many
		}
		least := slices.Index(loads, slices.Min(loads))
		room -= loads[least]
		loads = slices.Delete(loads, least, least+1)
	}
}

// TestGreatOnes: as many satellites and customers as may be, by all sets of satellites.
func TestGreatOnes(t *testing.T) {
	r := rand.New(rand.NewSource(2))
	var kinds [block.Kinds]int
	for range 80 {
		v := look(crowded(r, sats, customers))
		want := make([]int, len(v.mays))
		for s, may := range v.mays {
			var loads []int64
			for _, c := range may.All() {
				loads = append(loads, v.x.Customers[c].Load)
			}
			want[s] = taken(loads, v.x.Sats[s].Room)
		}
		counts(t, "a great one", v.x, want...)
		b := v.find(t, want, v.shut())
		finds(t, "a great one", v.x, b)
		kinds[b.Kind]++
	}
	for _, kind := range []block.Kind{block.None, block.Load, block.Count} {
		if kinds[kind] < 8 {
			t.Errorf("only %d are of kind %d", kinds[kind], kind)
		}
	}
}

// crowded: an instance whose Loads are nearly the same, with Rooms for not quite one more of them, all in all for about as many as there are: Counts may fall short where Rooms don't. Numbers may be great.
func crowded(r *rand.Rand, s, c int) inst.Instance {
	unit := []int64{1, 1000, great / 400}[r.Intn(3)]
	mays := make([]set.Set, s)
	for k := range c {
		for range 2 + r.Intn(4) {
			mays[r.Intn(s)] |= 1 << k
		}
	}
	loads, rooms := make([]int64, c), make([]int64, s)
	for k := range loads {
		loads[k] = unit * (5 + r.Int63n(2))
	}
	some := int64(max(1, c/s-1))
	for i := range rooms {
		rooms[i] = unit * (5*(some+min(1, r.Int63n(6))) + 3 + r.Int63n(2))
	}
	return of(rooms, loads, mays...)
}

// TestGreatNumbers: numbers as great as may be: what is added stays right beyond 32 bits.
func TestGreatNumbers(t *testing.T) {
	x := of(same(sats, great), same(customers, great), slices.Repeat([]set.Set{first(customers)}, sats)...)
	counts(t, "as great as may be", x, slices.Repeat([]int{1}, sats)...)
	x.Trucks.Many, x.Bikes.Many = customers-1, customers-1
	finds(t, "too few trucks", x, block.Block{Kind: block.Trucks})
	x.Trucks.Many = customers
	finds(t, "too few bikes", x, block.Block{Kind: block.Bikes})
	x.Bikes.Many = customers
	finds(t, "too little Room", x, block.Block{Kind: block.Load, Set: first(customers)})
	x.Customers = x.Customers[:sats]
	x.Cost, x.Time = square(x.Nodes(), func(_, _ int) int64 { return 1 }), square(x.Nodes(), func(_, _ int) int64 { return 1 })
	finds(t, "one each", x, block.Block{})
	x.Sats[7].Room--
	finds(t, "a bit too little for one", x, block.Block{Kind: block.Load, Set: first(sats)})
	x.Customers[3].Load--
	finds(t, "one gets that bit less", x, block.Block{})
	x.Customers[3].Load++
	x.Customers[4].Load--
	x.Time[1+7][x.Customer(4)], x.Time[1+7][x.Customer(3)] = great, 1
	for c := range sats {
		for k := range sats {
			if c != k {
				x.Time[x.Customer(c)][x.Customer(k)] = great
			}
		}
	}
	finds(t, "another one does, who can't be served from there", x, block.Block{Kind: block.Load, Set: first(sats)})
	x = of(same(sats, great), same(20, great/2+1), slices.Repeat([]set.Set{first(20)}, sats)...)
	finds(t, "more than half for each", x, block.Block{Kind: block.Count, Set: first(20)})
	x.Customers[0].Load = great / 2
	finds(t, "half for one", x, block.Block{Kind: block.Count, Set: first(20)})
	x.Customers[0].Load = great/2 - 1
	finds(t, "a bit less for one, from each", x, block.Block{})
	x = of(same(2, great), same(3, great), 3, 4)
	finds(t, "not who gets all, as great as may be", x, block.Block{Kind: block.Load, Set: 3})
}

// TestLongChain: who is short takes all others with him, one by one, up to the one at the end who has a bit more.
func TestLongChain(t *testing.T) {
	mays := make([]set.Set, sats)
	for s := range mays {
		mays[s] = set.Of(s, s+1)
	}
	x := of(same(sats, 5), same(sats+1, 5), mays...)
	finds(t, "the chain", x, block.Block{Kind: block.Load, Set: first(sats + 1)})
	x.Sats[sats-1].Room = 10
	finds(t, "enough at its end", x, block.Block{})
	x.Sats[sats-1].Room = 9
	finds(t, "not enough at its end", x, block.Block{Kind: block.Load, Set: first(sats + 1)})
	x.Sats[0].Room, x.Sats[sats-1].Room = 10, 5
	finds(t, "enough at its beginning", x, block.Block{})
	x.Sats[0].Room, x.Sats[3].Room = 5, 10
	finds(t, "enough in the middle", x, block.Block{})
	x.Sats[3].Room = 9
	finds(t, "not enough in the middle", x, block.Block{Kind: block.Load, Set: first(sats + 1)})
	x.Customers[9].Load = 4
	finds(t, "just enough, but not for one each", x, block.Block{Kind: block.Count, Set: first(sats + 1)})
	x.Customers[9].Load, x.Customers[4].Load = 5, 4
	finds(t, "just enough", x, block.Block{})
}

// TestNoWay: what P15.3 asks: if all can be served, each from a satellite that may serve it, within Rooms, by fleets that have room, there is no block.
func TestNoWay(t *testing.T) {
	r := rand.New(rand.NewSource(3))
	able := 0
	for range 2000 {
		x := drawn(r, 1+r.Intn(3), 1+r.Intn(5))
		rooms := make([]int64, len(x.Sats))
		for s, satellite := range x.Sats {
			rooms[s] = satellite.Room
		}
		if !dealt(x, reach.Mays(x), rooms, 0) || !carried(x, make([]int64, x.Trucks.Many), x.Trucks.Room, 0) || !carried(x, make([]int64, x.Bikes.Many), x.Bikes.Room, 0) {
			continue
		}
		able++
		finds(t, fmt.Sprintf("all of %v can be served", x), x, block.Block{})
		for kind := block.Big; kind < block.Kinds; kind++ {
			for c := range x.Customers {
				right(t, "all can be served", x, block.Block{Kind: kind, Who: c}, false)
			}
		}
		for _, l := range subsets(len(x.Customers)) {
			right(t, "all can be served", x, block.Block{Kind: block.Load, Set: l}, false)
			right(t, "all can be served", x, block.Block{Kind: block.Count, Set: l}, false)
		}
	}
	if able < 500 {
		t.Errorf("of only %d all can be served", able)
	}
}

// dealt: can all customers from one on be served, each from one satellite, with what Rooms are left?
func dealt(x inst.Instance, mays []set.Set, rooms []int64, c int) bool {
	if c == len(x.Customers) {
		return true
	}
	for s := range rooms {
		if rooms[s] -= x.Customers[c].Load; mays[s].Has(c) && rooms[s] >= 0 && dealt(x, mays, rooms, c+1) {
			return true
		}
		rooms[s] += x.Customers[c].Load
	}
	return false
}

// carried: can all customers' Loads from one on be put on vehicles, each on one?
func carried(x inst.Instance, on []int64, room int64, c int) bool {
	if c == len(x.Customers) {
		return true
	}
	for i := range on[:min(len(on), c+1)] {
		if on[i] += x.Customers[c].Load; on[i] <= room && carried(x, on, room, c+1) {
			return true
		}
		on[i] -= x.Customers[c].Load
	}
	return false
}

// none: nothing may be told of that.
func none(t *testing.T, what string, x inst.Instance) {
	t.Helper()
	if x.Check() == api.OK {
		t.Errorf("%s: Check has no error", what)
	}
	if l := block.Counts(x); len(l) != 0 {
		t.Errorf("%s: Counts is %v", what, l)
	}
	if b, ok := block.Find(x); b != (block.Block{}) || ok {
		t.Errorf("%s: Find is %v, %v", what, b, ok)
	}
	for kind := block.Kind(-1); kind <= block.Kinds; kind++ {
		for _, n := range []int{0, 1, 2, -1, 63, 64, lowest, most} {
			right(t, what, x, block.Block{Kind: kind, Who: n}, false)
			right(t, what, x, block.Block{Kind: kind, Set: set.Set(n)}, false)
			right(t, what, x, block.Block{Kind: kind, Who: n, Set: set.Set(n)}, false)
		}
	}
}

// TestWrong: of an instance that may not be there is none, whatever is wrong with it, and whatever else is a block.
func TestWrong(t *testing.T) {
	none(t, "nothing", inst.Instance{})
	for _, c := range []struct {
		what   string
		change func(x *inst.Instance)
	}{
		{"End below 0", func(x *inst.Instance) { x.End = -1 }},
		{"no truck", func(x *inst.Instance) { x.Trucks.Many = 0 }},
		{"trucks below none", func(x *inst.Instance) { x.Trucks.Many = lowest }},
		{"too many bikes", func(x *inst.Instance) { x.Bikes.Many = 61 }},
		{"bikes' Room below 0", func(x *inst.Instance) { x.Bikes.Room = lowest }},
		{"trucks' Room too great", func(x *inst.Instance) { x.Trucks.Room = most }},
		{"no satellite", func(x *inst.Instance) { x.Sats = nil }},
		{"a satellite less", func(x *inst.Instance) { x.Sats = x.Sats[:1] }},
		{"too many satellites", func(x *inst.Instance) {
			*x = of(same(sats+1, 1), same(1, 2), slices.Repeat([]set.Set{1}, sats+1)...)
		}},
		{"a satellite's Room below 0", func(x *inst.Instance) { x.Sats[1].Room = lowest }},
		{"Hold below 0", func(x *inst.Instance) { x.Sats[1].Hold = -1 }},
		{"no customer", func(x *inst.Instance) { x.Customers = nil }},
		{"a customer more", func(x *inst.Instance) { x.Customers = append(x.Customers, x.Customers[0]) }},
		{"too many customers", func(x *inst.Instance) { *x = of(same(1, 1), same(customers+1, 2), first(customers+1)) }},
		{"more customers than a set holds", func(x *inst.Instance) { *x = of(same(1, 1), same(100, 2), 1<<63) }},
		{"Load 0", func(x *inst.Instance) { x.Customers[0].Load = 0 }},
		{"Load too great", func(x *inst.Instance) { x.Customers[0].Load = most }},
		{"Close ahead of Open", func(x *inst.Instance) { x.Customers[0].Open, x.Customers[0].Close = 5, 4 }},
		{"no Cost", func(x *inst.Instance) { x.Cost = nil }},
		{"Cost below 0", func(x *inst.Instance) { x.Cost[1][2] = -1 }},
		{"a row of Time less", func(x *inst.Instance) { x.Time = x.Time[1:] }},
		{"a shorter row of Time", func(x *inst.Instance) { x.Time[5] = x.Time[5][1:] }},
		{"Time from a node to itself", func(x *inst.Instance) { x.Time[3][3] = 1 }},
	} {
		x := of([]int64{2, 2}, []int64{3, 3, 9}, 3, 5)
		x.Bikes, x.Trucks = inst.Fleet{Many: 1, Room: 8}, inst.Fleet{Many: 1, Room: 8}
		c.change(&x)
		none(t, c.what, x)
	}
}

// TestNothingElse: what the words don't name changes nothing.
func TestNothingElse(t *testing.T) {
	r := rand.New(rand.NewSource(4))
	for range 200 {
		x := drawn(r, 1+r.Intn(3), 1+r.Intn(6))
		b, _ := block.Find(x)
		l := block.Counts(x)
		x.Cost = square(x.Nodes(), func(_, _ int) int64 { return r.Int63n(great) })
		for i := 1; i < x.Nodes(); i++ {
			x.Time[i][0] = r.Int63n(great)
		}
		counts(t, "all else", x, l...)
		finds(t, "all else", x, b)
	}
}

// spare: a list with room behind it, in which the rest stands.
func spare[T any](l []T, rest ...T) []T {
	return append(slices.Clone(l), rest...)[:len(l)]
}

// TestLeavesWhatItGets: R5: neither an instance's lists nor their spare room are changed.
func TestLeavesWhatItGets(t *testing.T) {
	x := of([]int64{9, 5, 5}, []int64{5, 4, 1, 2, 3, 3, 3}, 7, 120, 120)
	was := x.Clone()
	x.Sats, x.Customers = spare(x.Sats, inst.Sat{Room: 5}), spare(x.Customers, inst.Customer{Load: 5})
	for _, at := range []*[][]int64{&x.Cost, &x.Time} {
		for i, row := range *at {
			(*at)[i] = spare(row, 5, 6)
		}
		*at = spare(*at, []int64{7})
	}
	counts(t, "spare room", x, block.Counts(was)...)
	b, _ := block.Find(was)
	finds(t, "spare room", x, b)
	if !inst.Same(x, was) {
		t.Errorf("it leaves %v, not %v", x, was)
	}
	if x.Sats[:4][3].Room != 5 || x.Customers[:8][7].Load != 5 {
		t.Errorf("what is behind satellites or customers is changed")
	}
	for _, rows := range [][][]int64{x.Cost, x.Time} {
		n := len(rows)
		if l := rows[:n+1][n]; len(l) != 1 || l[0] != 7 {
			t.Errorf("what is behind the rows is changed")
		}
		for _, row := range rows {
			if l := row[:n+2]; l[n] != 5 || l[n+1] != 6 {
				t.Errorf("what is behind a row is changed")
			}
		}
	}
}

// TestSameAgain: R5, R6: each answer is new memory, and the same again.
func TestSameAgain(t *testing.T) {
	r := rand.New(rand.NewSource(5))
	for range 50 {
		x := drawn(r, 1+r.Intn(4), 1+r.Intn(7))
		l := block.Counts(x)
		b, _ := block.Find(x)
		was := slices.Clone(l)
		for i := range l[:cap(l)] {
			l[:cap(l)][i] = -7
		}
		counts(t, "again", x, was...)
		finds(t, "again", x, b)
	}
}
