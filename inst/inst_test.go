package inst_test

import (
	"math"
	"math/rand"
	"slices"
	"testing"

	"wharfage/api"
	"wharfage/inst"
)

const (
	lowest, most = math.MinInt64, math.MaxInt64
	great        = 1000000000 // The greatest number.
	fleet        = 60         // The most vehicles of a fleet.
	sats         = 12         // The most satellites.
	customers    = 48         // The most customers.
)

// square: a matrix of n rows of n numbers: from a node to itself 0, else low and more, no two the same.
func square(n int, low int64) [][]int64 {
	l := make([][]int64, n)
	for i := range l {
		l[i] = make([]int64, n)
		for k := range l[i] {
			if i != k {
				l[i][k] = low + int64(i*n+k)
			}
		}
	}
	return l
}

// of: an instance that may be, of so many satellites and customers (if they are as many as may be).
func of(s, c int) inst.Instance {
	x := inst.Instance{
		End: 500, Trucks: inst.Fleet{Many: 2, Room: 90}, Bikes: inst.Fleet{Many: 3, Room: 20},
		Cost: square(1+s+c, 1000), Time: square(1+s+c, 5000),
	}
	for i := range int64(s) {
		x.Sats = append(x.Sats, inst.Sat{Room: 30 + i, Hold: 4 + i})
	}
	for i := range int64(c) {
		x.Customers = append(x.Customers, inst.Customer{Load: 3 + i, Open: 50 + i, Close: 70 + 2*i, Stay: 6 + i})
	}
	return x
}

// cell is one of an instance's numbers: how it is called; from where to where it may be, where all else is as it is.
type cell struct {
	name      string
	at        *int64
	low, high int64
}

// cells: all of an instance's numbers but how many vehicles there are.
func cells(x *inst.Instance) []cell {
	l := []cell{{"End", &x.End, 0, great}, {"trucks' Room", &x.Trucks.Room, 0, great}, {"bikes' Room", &x.Bikes.Room, 0, great}}
	for i := range x.Sats {
		l = append(l, cell{"satellite's Room", &x.Sats[i].Room, 0, great}, cell{"Hold", &x.Sats[i].Hold, 0, great})
	}
	for i := range x.Customers {
		c := &x.Customers[i]
		l = append(l, cell{"Load", &c.Load, 1, great}, cell{"Open", &c.Open, 0, c.Close}, cell{"Close", &c.Close, c.Open, great}, cell{"Stay", &c.Stay, 0, great})
	}
	return slices.Concat(l, ways("Cost", x.Cost), ways("Time", x.Time))
}

// ways: the numbers of a matrix.
func ways(name string, rows [][]int64) []cell {
	var l []cell
	for i := range rows {
		for k := range rows[i] {
			high := int64(great)
			if i == k {
				high = 0
			}
			l = append(l, cell{name, &rows[i][k], 0, high})
		}
	}
	return l
}

// numbers: an instance as one list, in which each list stands behind how long it is: two are the same just where their lists are.
func numbers(x inst.Instance) []int64 {
	l := []int64{x.End, int64(x.Trucks.Many), x.Trucks.Room, int64(x.Bikes.Many), x.Bikes.Room, int64(len(x.Sats))}
	for _, s := range x.Sats {
		l = append(l, s.Room, s.Hold)
	}
	l = append(l, int64(len(x.Customers)))
	for _, c := range x.Customers {
		l = append(l, c.Load, c.Open, c.Close, c.Stay)
	}
	for _, rows := range [][][]int64{x.Cost, x.Time} {
		l = append(l, int64(len(rows)))
		for _, row := range rows {
			l = append(append(l, int64(len(row))), row...)
		}
	}
	return l
}

// checked: the words of P11.2.
func checked(x inst.Instance) api.Errno {
	for _, c := range [][2]int{{x.Trucks.Many, fleet}, {x.Bikes.Many, fleet}, {len(x.Sats), sats}, {len(x.Customers), customers}} {
		if c[0] < 1 || c[0] > c[1] {
			return api.ErrCount
		}
	}
	nodes := 1 + len(x.Sats) + len(x.Customers)
	for _, rows := range [][][]int64{x.Cost, x.Time} {
		if len(rows) != nodes || slices.ContainsFunc(rows, func(row []int64) bool { return len(row) != nodes }) {
			return api.ErrSize
		}
	}
	for _, c := range cells(&x) {
		if *c.at < c.low || *c.at > c.high || *c.at < 0 || *c.at > great {
			return api.ErrRange
		}
	}
	return api.OK
}

// check: Check, beside the words and beside what is told.
func check(t *testing.T, what string, x inst.Instance, want api.Errno) {
	t.Helper()
	if e := x.Check(); e != want {
		t.Errorf("%s: Check is %d, not %d", what, e, want)
	}
	if e := checked(x); e != want {
		t.Errorf("%s: by the words it is %d, not %d", what, e, want)
	}
}

// same: Same, both ways round, beside the words and beside what is told.
func same(t *testing.T, what string, a, b inst.Instance, want bool) {
	t.Helper()
	if inst.Same(a, b) != want || inst.Same(b, a) != want {
		t.Errorf("%s: Same is %t, %t, not %t", what, inst.Same(a, b), inst.Same(b, a), want)
	}
	if slices.Equal(numbers(a), numbers(b)) != want {
		t.Errorf("%s: by the words it is %t", what, !want)
	}
}

func TestExamples(t *testing.T) {
	for _, x := range []inst.Instance{of(2, 3), {Sats: make([]inst.Sat, 2)}} {
		if at := x.Customer(1); at != 4 {
			t.Errorf("with 2 satellites the customer 1 is node %d", at)
		}
	}
}

func TestNodes(t *testing.T) {
	for s := range sats + 3 {
		for c := range customers + 3 {
			x := inst.Instance{Sats: make([]inst.Sat, s), Customers: make([]inst.Customer, c)}
			if n := x.Nodes(); n != 1+s+c {
				t.Errorf("Nodes of %d satellites and %d customers is %d", s, c, n)
			}
		}
	}
	// By satellites and customers, whatever else there is.
	x := of(2, 3)
	x.Cost, x.Time = nil, square(9, 0)
	if n := x.Nodes(); n != 6 {
		t.Errorf("Nodes is %d", n)
	}
}

// TestPlaces: the depot, the satellites, the customers are all nodes, each once, in that order.
func TestPlaces(t *testing.T) {
	for _, c := range [][2]int{{1, 1}, {2, 3}, {12, 48}, {0, 2}, {2, 0}, {0, 0}, {20, 70}} {
		x := inst.Instance{Sats: make([]inst.Sat, c[0]), Customers: make([]inst.Customer, c[1])}
		at := 1
		for s := range c[0] {
			if x.Sat(s) != at {
				t.Errorf("of %v Sat(%d) is %d", c, s, x.Sat(s))
			}
			at++
		}
		for k := range c[1] {
			if x.Customer(k) != at {
				t.Errorf("of %v Customer(%d) is %d", c, k, x.Customer(k))
			}
			at++
		}
		if x.Nodes() != at {
			t.Errorf("of %v Nodes is %d", c, x.Nodes())
		}
	}
}

// TestPlacesOfAnyNumber: also where there is no such satellite, or customer.
func TestPlacesOfAnyNumber(t *testing.T) {
	for _, c := range []struct{ i, sat, customer int }{
		{-1, 0, 2}, {-2, -1, 1}, {-3, -2, 0}, {-4, -3, -1}, {2, 3, 5}, {3, 4, 6}, {1000, 1001, 1003},
		{1 << 32, 1<<32 + 1, 1<<32 + 3}, {-1 << 32, -1<<32 + 1, -1<<32 + 3},
		{lowest, lowest + 1, lowest + 3}, {most, lowest, lowest + 2}, {most - 2, most - 1, lowest}, {most - 3, most - 2, most},
	} {
		x := of(2, 3)
		if sat, customer := x.Sat(c.i), x.Customer(c.i); sat != c.sat || customer != c.customer {
			t.Errorf("Sat(%d), Customer(%d) are %d, %d, not %d, %d", c.i, c.i, sat, customer, c.sat, c.customer)
		}
	}
	none := inst.Instance{}
	for _, i := range []int{-5, -1, 0, 1, 7} {
		if none.Sat(i) != 1+i || none.Customer(i) != 1+i {
			t.Errorf("of none Sat(%d), Customer(%d) are %d, %d", i, i, none.Sat(i), none.Customer(i))
		}
	}
}

func TestLoad(t *testing.T) {
	for _, c := range []struct {
		loads []int64
		sum   int64
	}{
		{nil, 0}, {[]int64{}, 0}, {[]int64{7}, 7}, {[]int64{3, 4}, 7}, {[]int64{1, 20, 300, 4000}, 4321},
		{slices.Repeat([]int64{great}, customers), 48 * great}, {slices.Repeat([]int64{1}, 1000), 1000},
		{[]int64{0}, 0}, {[]int64{-5}, -5}, {[]int64{-5, 9}, 4},
		{[]int64{1<<32 + 1, 1 << 32}, 1<<33 + 1},
		{[]int64{most}, most}, {[]int64{most, 1}, lowest}, {[]int64{lowest, -1}, most}, {[]int64{most, most, 5}, 3}, {[]int64{lowest, lowest}, 0}, {[]int64{most, 1, -1}, most},
	} {
		// All else is nothing to it.
		x := inst.Instance{End: 3, Trucks: inst.Fleet{Many: 1, Room: 5}, Sats: []inst.Sat{{Room: 8, Hold: 9}}}
		for i, load := range c.loads {
			x.Customers = append(x.Customers, inst.Customer{Load: load, Open: int64(i), Close: 50, Stay: 7})
		}
		if sum := x.Load(); sum != c.sum {
			t.Errorf("Load of %v is %d, not %d", c.loads, sum, c.sum)
		}
	}
}

func TestCheckMayBe(t *testing.T) {
	for s := 1; s <= sats; s++ {
		for c := 1; c <= customers; c++ {
			check(t, "an instance that may be", of(s, c), api.OK)
		}
	}
}

func TestCheckCounts(t *testing.T) {
	check(t, "none", inst.Instance{}, api.ErrCount)
	for n, want := range map[int]api.Errno{
		1: api.OK, 2: api.OK, 59: api.OK, 60: api.OK, 61: api.ErrCount, 0: api.ErrCount, -1: api.ErrCount,
		1 << 32: api.ErrCount, 1<<32 + 1: api.ErrCount, lowest: api.ErrCount, most: api.ErrCount,
	} {
		x, y := of(2, 3), of(2, 3)
		x.Trucks.Many, y.Bikes.Many = n, n
		check(t, "trucks", x, want)
		check(t, "bikes", y, want)
	}
	for c, want := range map[[2]int]api.Errno{
		{1, 1}: api.OK, {12, 1}: api.OK, {1, 48}: api.OK, {12, 48}: api.OK,
		{0, 1}: api.ErrCount, {1, 0}: api.ErrCount, {0, 0}: api.ErrCount, {13, 1}: api.ErrCount, {13, 48}: api.ErrCount,
		{1, 49}: api.ErrCount, {12, 49}: api.ErrCount, {48, 12}: api.ErrCount, {1, 60}: api.ErrCount, {100, 100}: api.ErrCount,
	} {
		check(t, "satellites and customers", of(c[0], c[1]), want)
	}
	// What there isn't may be nil or empty.
	x := of(1, 1)
	x.Sats = []inst.Sat{}
	check(t, "no satellites", x, api.ErrCount)
	x = of(1, 1)
	x.Customers = []inst.Customer{}
	check(t, "no customers", x, api.ErrCount)
}

// matrix: Cost or Time.
func matrix(x *inst.Instance, time bool) *[][]int64 {
	if time {
		return &x.Time
	}
	return &x.Cost
}

func TestCheckSizes(t *testing.T) {
	for _, time := range []bool{false, true} {
		for n := range 9 {
			x := of(2, 3)
			*matrix(&x, time) = square(n, 0)
			want := api.ErrSize
			if n == 6 {
				want = api.OK
			}
			check(t, "a matrix of as many rows and numbers", x, want)
			x = of(2, 3)
			l := matrix(&x, time)
			*l = append(*l, slices.Repeat([][]int64{make([]int64, 6)}, 3)...)[:n]
			check(t, "a matrix of as many rows", x, want)
			for i := range 6 {
				x = of(2, 3)
				(*matrix(&x, time))[i] = make([]int64, n)
				check(t, "a row of as many numbers", x, want)
			}
		}
		for i := range 6 {
			x := of(2, 3)
			(*matrix(&x, time))[i] = nil
			check(t, "no row", x, api.ErrSize)
		}
		for _, rows := range [][][]int64{nil, {}, {{}}, make([][]int64, 6)} {
			x := of(2, 3)
			*matrix(&x, time) = rows
			check(t, "rows of none", x, api.ErrSize)
		}
		// As many numbers in all, but not in each row.
		x := of(2, 3)
		l := *matrix(&x, time)
		l[4], l[5] = make([]int64, 5), make([]int64, 7)
		check(t, "numbers of one row in another one", x, api.ErrSize)
	}
	// Nodes for which there are no rows, rows for which there are no nodes.
	x := of(2, 3)
	x.Sats = x.Sats[:1]
	check(t, "a satellite less", x, api.ErrSize)
	x = of(2, 3)
	x.Customers = append(x.Customers, x.Customers[0])
	check(t, "a customer more", x, api.ErrSize)
}

// TestCheckRanges: each number, up to its edges, while all others may be.
func TestCheckRanges(t *testing.T) {
	for _, c := range [][2]int{{1, 1}, {2, 3}, {12, 48}} {
		x := of(c[0], c[1])
		for _, a := range cells(&x) {
			before := *a.at
			for _, n := range []int64{lowest, lowest + 1, -great - 1, -great, -2, -1, 0, 1, 2, a.low - 1, a.low, a.low + 1, a.high - 1, a.high, a.high + 1, great - 1, great, great + 1, 1 << 32, 1<<32 + 60, most - 1, most} {
				*a.at = n
				want := api.OK
				if n < a.low || n > a.high {
					want = api.ErrRange
				}
				if e := x.Check(); e != want {
					t.Errorf("of %v, %s %d: Check is %d, not %d", c, a.name, n, e, want)
				}
			}
			*a.at = before
		}
		check(t, "as it was", x, api.OK)
	}
}

// TestCheckWindows: Close is from Open on, wherever both are.
func TestCheckWindows(t *testing.T) {
	for _, c := range []struct {
		open, close int64
		want        api.Errno
	}{
		{0, 0, api.OK}, {0, great, api.OK}, {great, great, api.OK}, {5, 5, api.OK}, {5, 6, api.OK},
		{6, 5, api.ErrRange}, {1, 0, api.ErrRange}, {great, great - 1, api.ErrRange}, {great, 0, api.ErrRange},
		{great + 1, great + 1, api.ErrRange}, {great, great + 1, api.ErrRange}, {-1, 0, api.ErrRange}, {-1, -1, api.ErrRange},
		{lowest, most, api.ErrRange}, {most, lowest, api.ErrRange}, {0, most, api.ErrRange}, {lowest, 0, api.ErrRange}, {most, most, api.ErrRange}, {lowest, lowest, api.ErrRange},
	} {
		for at := range 3 {
			x := of(2, 3)
			x.Customers[at].Open, x.Customers[at].Close = c.open, c.close
			check(t, "Open and Close", x, c.want)
		}
	}
}

// TestCheckAllAtEdges: all numbers as low, and as great, as may be; neither ways nor windows must make sense beyond that.
func TestCheckAllAtEdges(t *testing.T) {
	for _, c := range [][2]int{{1, 1}, {12, 48}} {
		x, y := of(c[0], c[1]), of(c[0], c[1])
		for _, x := range []*inst.Instance{&x, &y} {
			for i := range x.Customers {
				x.Customers[i].Open, x.Customers[i].Close = 0, great
			}
		}
		for _, a := range cells(&x) {
			*a.at = a.low
		}
		for _, a := range cells(&y) {
			*a.at = a.high
		}
		x.Trucks.Many, x.Bikes.Many, y.Trucks.Many, y.Bikes.Many = 1, 1, fleet, fleet
		check(t, "all as low as may be", x, api.OK)
		check(t, "all as great as may be", y, api.OK)
		if x.Load() != int64(c[1]) || y.Load() != int64(c[1])*great {
			t.Errorf("of %v the Loads are %d and %d", c, x.Load(), y.Load())
		}
	}
}

// TestCheckOrder: what is told first, where several things are wrong.
func TestCheckOrder(t *testing.T) {
	counts := []func(*inst.Instance){
		func(x *inst.Instance) { x.Trucks.Many = 0 },
		func(x *inst.Instance) { x.Bikes.Many = 61 },
		func(x *inst.Instance) { x.Sats = nil },
		func(x *inst.Instance) { x.Sats = make([]inst.Sat, 13) },
		func(x *inst.Instance) { x.Customers = x.Customers[:0] },
		func(x *inst.Instance) { x.Customers = make([]inst.Customer, 49) },
	}
	sizes := []func(*inst.Instance){
		func(x *inst.Instance) { x.Cost = nil },
		func(x *inst.Instance) { x.Time = x.Time[:5] },
		func(x *inst.Instance) { x.Cost[5] = x.Cost[5][:5] },
		func(x *inst.Instance) { x.Time[0] = append(x.Time[0], 0) },
	}
	ranges := []func(*inst.Instance){
		func(x *inst.Instance) { x.End = -1 },
		func(x *inst.Instance) { x.Trucks.Room = great + 1 },
		func(x *inst.Instance) { x.Cost[0][1] = -1 },
		func(x *inst.Instance) { x.Time[1][1] = 1 },
	}
	for _, wrong := range ranges {
		x := of(2, 3)
		wrong(&x)
		check(t, "ranges", x, api.ErrRange)
		for _, size := range sizes {
			y := x.Clone()
			size(&y)
			check(t, "sizes, ranges", y, api.ErrSize)
			for _, count := range counts {
				z := y.Clone()
				count(&z)
				check(t, "counts, sizes, ranges", z, api.ErrCount)
			}
		}
		for _, count := range counts {
			y := x.Clone()
			count(&y)
			check(t, "counts, ranges", y, api.ErrCount)
		}
	}
}

// TestCheckShared: rows that stand in several places are looked at as if each were its own.
func TestCheckShared(t *testing.T) {
	x := of(2, 3)
	x.Time = x.Cost
	check(t, "Time is Cost", x, api.OK)
	x.Cost[3] = x.Cost[2]
	check(t, "a row twice", x, api.ErrRange)
	x.Cost = slices.Repeat([][]int64{make([]int64, 6)}, 6)
	x.Time = x.Cost
	check(t, "one row alone", x, api.OK)
}

func TestCloneIsTheSame(t *testing.T) {
	for _, x := range []inst.Instance{
		{}, of(1, 1), of(2, 3), of(12, 48), of(0, 4), of(4, 0), of(30, 60),
		{Sats: []inst.Sat{}, Customers: []inst.Customer{}, Cost: [][]int64{}, Time: [][]int64{}},
		{Cost: [][]int64{nil, {}, {1, 2}, {3}}, Time: [][]int64{{most}, {lowest, 0}}},
		{End: most, Trucks: inst.Fleet{Many: lowest, Room: most}, Bikes: inst.Fleet{Many: most, Room: lowest}, Sats: []inst.Sat{{-1, lowest}}, Customers: []inst.Customer{{lowest, most, -7, 8}}},
		{Cost: [][]int64{{}}}, {Time: make([][]int64, 9)},
	} {
		same(t, "a Clone", x, x.Clone(), true)
		same(t, "a Clone's Clone", x, x.Clone().Clone(), true)
	}
}

// TestCloneShares: nothing of the one is changed by any of the other's numbers, or by what is laid behind its lists.
func TestCloneShares(t *testing.T) {
	for _, c := range [][2]int{{1, 1}, {2, 3}, {12, 48}} {
		x := of(c[0], c[1])
		y := x.Clone()
		for _, a := range cells(&y) {
			*a.at = -7
		}
		same(t, "what was cloned", x, of(c[0], c[1]), true)
		y = x.Clone()
		for _, a := range cells(&x) {
			*a.at = -8
		}
		x.Cost[0], x.Time[1] = nil, []int64{4}
		same(t, "a Clone", y, of(c[0], c[1]), true)
		y.Cost[1], y.Time[0] = nil, []int64{9}
		if len(x.Cost[1]) == 0 || len(x.Time[0]) == 1 {
			t.Error("rows are shared")
		}
	}
}

// TestCloneSplits: a Clone's own lists share nothing with each other, where those that were cloned do.
func TestCloneSplits(t *testing.T) {
	x := of(2, 3)
	x.Time = x.Cost
	x.Cost[3] = x.Cost[2]
	y := x.Clone()
	same(t, "a Clone of shared rows", x, y, true)
	want := numbers(x)
	for i, a := range cells(&y) {
		before := *a.at
		*a.at = -7
		count := 0
		for k, n := range numbers(y) {
			if n != want[k] {
				count++
			}
		}
		if count != 1 {
			t.Errorf("the number %d (%s) of a Clone is there %d times", i, a.name, count)
		}
		*a.at = before
	}
}

// spare: a list with room behind it, in which such things stand.
func spare[T any](l []T, behind ...T) []T {
	return append(slices.Clone(l), behind...)[:len(l)]
}

// roomy: an instance with spare room behind all its lists.
func roomy() inst.Instance {
	x := of(2, 3)
	x.Sats, x.Customers = spare(x.Sats, inst.Sat{Room: -1, Hold: -2}), spare(x.Customers, inst.Customer{Load: -3, Open: -4, Close: -5, Stay: -6})
	for _, rows := range []*[][]int64{&x.Cost, &x.Time} {
		for i, row := range *rows {
			(*rows)[i] = spare(row, -7, -8)
		}
		*rows = spare(*rows, []int64{-9})
	}
	return x
}

// behind: what stands in the spare room of a roomy one.
func behind(x inst.Instance) []int64 {
	s, c := x.Sats[:3][2], x.Customers[:4][3]
	l := []int64{s.Room, s.Hold, c.Load, c.Open, c.Close, c.Stay}
	for _, rows := range [][][]int64{x.Cost, x.Time} {
		for _, row := range rows[:7] {
			l = append(l, row[:len(row)+min(2, cap(row)-len(row))]...)
		}
	}
	return l
}

// TestLeavesWhatItGets: R5, spare room included.
func TestLeavesWhatItGets(t *testing.T) {
	x, y := roomy(), roomy()
	all, rest := numbers(x), behind(x)
	x.Nodes()
	x.Sat(1)
	x.Customer(1)
	x.Load()
	check(t, "with spare room", x, api.OK)
	same(t, "with spare room", x, y, true)
	z := x.Clone()
	z.Sats, z.Customers = append(z.Sats, inst.Sat{Room: 77}), append(z.Customers, inst.Customer{Load: 77})
	for _, rows := range []*[][]int64{&z.Cost, &z.Time} {
		for i, row := range *rows {
			(*rows)[i] = append(row, 77)
		}
		*rows = append(*rows, []int64{77})
	}
	if !slices.Equal(numbers(x), all) || !slices.Equal(behind(x), rest) {
		t.Errorf("what was handed in is %v, and %v behind, now", numbers(x), behind(x))
	}
}

// TestSameEach: each number counts, wherever it stands.
func TestSameEach(t *testing.T) {
	for _, c := range [][2]int{{1, 1}, {2, 3}, {12, 48}} {
		x, y := of(c[0], c[1]), of(c[0], c[1])
		same(t, "two of a kind", x, y, true)
		for _, a := range cells(&y) {
			before := *a.at
			for _, n := range []int64{before + 1, before - 1, -before - 1, before + 1<<32, before ^ lowest} {
				*a.at = n
				if inst.Same(x, y) || inst.Same(y, x) {
					t.Errorf("of %v, %s %d and %d: Same is true", c, a.name, before, n)
				}
			}
			*a.at = before
		}
		for _, n := range []int{0, 1, 60, -2, 1<<32 + 2, 1<<32 + 3, most} {
			y.Trucks.Many = n
			same(t, "trucks", x, y, false)
			y.Trucks.Many = 2
			y.Bikes.Many = n
			same(t, "bikes", x, y, false)
			y.Bikes.Many = 3
		}
		same(t, "as it was", x, y, true)
	}
}

// TestSameLengths: lists of which one begins as the other one, but is longer, aren't the same.
func TestSameLengths(t *testing.T) {
	for what, change := range map[string]func(*inst.Instance){
		"a satellite less":    func(x *inst.Instance) { x.Sats = x.Sats[:1] },
		"no satellite":        func(x *inst.Instance) { x.Sats = nil },
		"a customer less":     func(x *inst.Instance) { x.Customers = x.Customers[:2] },
		"no customer":         func(x *inst.Instance) { x.Customers = nil },
		"a row of Cost less":  func(x *inst.Instance) { x.Cost = x.Cost[:5] },
		"a row of Time less":  func(x *inst.Instance) { x.Time = x.Time[:5] },
		"a first row less":    func(x *inst.Instance) { x.Time = x.Time[1:] },
		"no Cost":             func(x *inst.Instance) { x.Cost = nil },
		"no Time":             func(x *inst.Instance) { x.Time = nil },
		"a Cost less":         func(x *inst.Instance) { x.Cost[0] = x.Cost[0][:5] },
		"the last Cost less":  func(x *inst.Instance) { x.Cost[5] = x.Cost[5][:5] },
		"a Time less":         func(x *inst.Instance) { x.Time[2] = x.Time[2][:5] },
		"a row without Times": func(x *inst.Instance) { x.Time[3] = nil },
		"a row of none more":  func(x *inst.Instance) { x.Time = append(x.Time, nil) },
		"two rows exchanged":  func(x *inst.Instance) { x.Cost[2], x.Cost[3] = x.Cost[3], x.Cost[2] },
		"matrices exchanged":  func(x *inst.Instance) { x.Cost, x.Time = x.Time, x.Cost },
		"fleets exchanged":    func(x *inst.Instance) { x.Trucks, x.Bikes = x.Bikes, x.Trucks },
		"two satellites":      func(x *inst.Instance) { x.Sats[0], x.Sats[1] = x.Sats[1], x.Sats[0] },
		"two customers":       func(x *inst.Instance) { x.Customers[0], x.Customers[2] = x.Customers[2], x.Customers[0] },
		"all less":            func(x *inst.Instance) { *x = inst.Instance{} },
	} {
		x, y := of(2, 3), of(2, 3)
		change(&y)
		same(t, what, x, y, false)
		same(t, what, y, y.Clone(), true)
	}
	// The same numbers, one behind the other, but in other rows.
	x, y := inst.Instance{Cost: [][]int64{{1, 2}, {3}}}, inst.Instance{Cost: [][]int64{{1}, {2, 3}}}
	same(t, "other rows", x, y, false)
	y.Cost, y.Time = [][]int64{{1, 2}}, [][]int64{{3}}
	same(t, "another matrix", x, y, false)
}

// TestSameEmpty: R4: a list that is empty may be nil.
func TestSameEmpty(t *testing.T) {
	none := inst.Instance{}
	for _, x := range []inst.Instance{
		{}, {Sats: []inst.Sat{}}, {Customers: []inst.Customer{}}, {Cost: [][]int64{}}, {Time: [][]int64{}},
		{Sats: []inst.Sat{}, Customers: []inst.Customer{}, Cost: [][]int64{}, Time: [][]int64{}},
	} {
		same(t, "none", x, none, true)
		if x.Nodes() != 1 || x.Load() != 0 || x.Check() != api.ErrCount {
			t.Errorf("of none there are %d nodes, Load %d, error %d", x.Nodes(), x.Load(), x.Check())
		}
	}
	same(t, "rows of none", inst.Instance{Cost: [][]int64{nil, {}}}, inst.Instance{Cost: [][]int64{{}, nil}}, true)
	same(t, "rows of none", inst.Instance{Time: [][]int64{{}, {5}}}, inst.Instance{Time: [][]int64{nil, {5}}}, true)
}

// TestSameUnchecked: also of instances that may not be.
func TestSameUnchecked(t *testing.T) {
	x := inst.Instance{End: -1, Trucks: inst.Fleet{Many: most, Room: lowest}, Cost: [][]int64{{1}, {2, 3, 4}}, Sats: make([]inst.Sat, 40)}
	y := inst.Instance{End: -1, Trucks: inst.Fleet{Many: most, Room: lowest}, Cost: [][]int64{{1}, {2, 3, 4}}, Sats: make([]inst.Sat, 40)}
	same(t, "two that may not be", x, y, true)
	y.Cost[1][2]++
	same(t, "two that may not be", x, y, false)
	y.Cost[1][2]--
	y.Sats[39].Hold = 1
	same(t, "two that may not be", x, y, false)
}

// wild: an instance that may be or not: one that may be, of which some numbers and lists are others.
func wild(r *rand.Rand) inst.Instance {
	x := of(r.Intn(5), r.Intn(6))
	all := cells(&x)
	for range r.Intn(3) {
		*all[r.Intn(len(all))].at = number(r)
	}
	for range r.Intn(3) {
		rows := *matrix(&x, r.Intn(2) == 0)
		switch i := r.Intn(len(rows)); r.Intn(14) {
		case 0:
			x.Trucks.Many = int(number(r))
		case 1:
			x.Bikes.Many = int(number(r))
		case 2:
			rows[i] = rows[i][:r.Intn(len(rows[i])+1)]
		case 3:
			rows[i] = append(rows[i], number(r))
		case 4:
			x.Cost = x.Cost[:r.Intn(len(x.Cost)+1)]
		case 5:
			x.Time = append(x.Time, nil)
		}
		if min(len(x.Cost), len(x.Time)) == 0 {
			break
		}
	}
	return x
}

// number: mostly a small one, else one of any size.
func number(r *rand.Rand) int64 {
	if r.Intn(3) > 0 {
		return r.Int63n(100)
	}
	return int64(r.Uint64()) >> r.Intn(64)
}

// TestAnything: P1 and R6: every call answers of any instance by the words, and the same again.
func TestAnything(t *testing.T) {
	r := rand.New(rand.NewSource(11))
	seen := map[api.Errno]int{}
	for range 20000 {
		x, y := wild(r), wild(r)
		all := numbers(x)
		want := checked(x)
		seen[want]++
		check(t, "a wild one", x, want)
		check(t, "a wild one again", x, want)
		same(t, "two wild ones", x, y, slices.Equal(all, numbers(y)))
		z := x.Clone()
		same(t, "a wild one's Clone", x, z, true)
		check(t, "a wild one's Clone", z, want)
		load := int64(0)
		for _, c := range x.Customers {
			load += c.Load
		}
		if i := int(number(r)); x.Load() != load || z.Load() != load || x.Sat(i) != 1+i || x.Customer(i) != 1+len(x.Sats)+i || z.Nodes() != x.Customer(len(x.Customers)) {
			t.Errorf("of %v Load, Sat(%d), Customer(%d), Nodes are %d, %d, %d, %d", x, i, i, x.Load(), x.Sat(i), x.Customer(i), z.Nodes())
		}
		if !slices.Equal(numbers(x), all) {
			t.Errorf("%v is %v now", all, numbers(x))
		}
	}
	for _, e := range []api.Errno{api.OK, api.ErrCount, api.ErrSize, api.ErrRange} {
		if seen[e] < 500 {
			t.Errorf("among wild ones the error %d is there %d times alone", e, seen[e])
		}
	}
}
