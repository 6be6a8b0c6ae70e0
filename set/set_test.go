package set_test

import (
	"math"
	"math/rand"
	"slices"
	"testing"

	"wharfage/set"
)

const full = set.Set(math.MaxUint64)

// members: which numbers a set should have, kept apart from any bits.
type members [set.Most]bool

// told: the set that has just these: the number n is there, if the bit of 2^n is.
func (m members) told() set.Set {
	s, power := set.Set(0), set.Set(1)
	for _, in := range m {
		if in {
			s += power
		}
		power *= 2
	}
	return s
}

// rising: the members as a list.
func (m members) rising() []int {
	var l []int
	for n, in := range m {
		if in {
			l = append(l, n)
		}
	}
	return l
}

// there: is it one of the numbers that there are?
func there(n int) bool { return n >= 0 && n <= 63 }

// numbers: all that there are, and many that there aren't: some of these would be there, were they cut to few bits.
func numbers() []int {
	l := []int{-128, -65, -64, -63, -2, -1, 64, 65, 66, 67, 127, 128, 255, 256, 320, 1000, 1 << 16, 1<<32 - 1, 1 << 32, 1<<32 + 3,
		-1 << 32, 3 - 1<<32, math.MaxInt32, math.MinInt32, math.MaxInt64 - 63, math.MaxInt64, math.MinInt64, math.MinInt64 + 3}
	for n := range 64 {
		l = append(l, n)
	}
	return l
}

// some: members of many sorts: none, all, each alone, all but each, and any.
func some() []members {
	var none, all members
	for n := range all {
		all[n] = true
	}
	l := []members{none, all}
	for n := range all {
		one, but := none, all
		one[n], but[n] = true, false
		l = append(l, one, but)
	}
	r := rand.New(rand.NewSource(1))
	for range 200 {
		var m members
		for n := range m {
			m[n] = r.Intn(4) == 0
		}
		l = append(l, m)
	}
	return l
}

func TestMost(t *testing.T) {
	if set.Most != 64 {
		t.Errorf("Most is %d", set.Most)
	}
}

func TestOfTold(t *testing.T) {
	for _, c := range []struct {
		l    []int
		want set.Set
	}{
		{nil, 0},
		{[]int{}, 0},
		{[]int{0}, 1},
		{[]int{1}, 2},
		{[]int{3, 70, 0}, 9},
		{[]int{0, 3}, 9},
		{[]int{3, 0, 3, 3}, 9},
		{[]int{5, 5}, 32},
		{[]int{31, 32}, 3 << 31},
		{[]int{62}, 1 << 62},
		{[]int{63}, 1 << 63},
		{[]int{63, 0}, 1<<63 + 1},
		{[]int{64}, 0},
		{[]int{-1}, 0},
		{[]int{-1, 64, 2, 128}, 4},
		{[]int{math.MinInt64, math.MaxInt64}, 0},
		{[]int{math.MinInt64, 7, math.MaxInt64}, 128},
		{[]int{1<<32 + 3, 256}, 0},
	} {
		if s := set.Of(c.l...); s != c.want {
			t.Errorf("Of(%v) is %#x, not %#x", c.l, uint64(s), uint64(c.want))
		}
	}
	if set.Of() != 0 || set.Of(3, 70, 0) != 9 {
		t.Errorf("Of() is %d, Of(3, 70, 0) is %d", set.Of(), set.Of(3, 70, 0))
	}
}

// TestOfOne: each number alone, and each that there isn't.
func TestOfOne(t *testing.T) {
	for _, n := range numbers() {
		var m members
		if there(n) {
			m[n] = true
		}
		if s := set.Of(n); s != m.told() {
			t.Errorf("Of(%d) is %#x, not %#x", n, uint64(s), uint64(m.told()))
		}
	}
}

func TestOfAtRandom(t *testing.T) {
	r := rand.New(rand.NewSource(2))
	few := numbers()
	for range 20000 {
		var m members
		l := make([]int, r.Intn(100))
		for i := range l {
			l[i] = few[r.Intn(len(few))]
			if there(l[i]) {
				m[l[i]] = true
			}
		}
		if s := set.Of(l...); s != m.told() {
			t.Errorf("Of(%v) is %#x, not %#x", l, uint64(s), uint64(m.told()))
		}
	}
}

// TestOfLeavesItsList: R5, spare room included.
func TestOfLeavesItsList(t *testing.T) {
	all := []int{9, 3, -1, 3, 70, 11, 12}
	before := slices.Clone(all)
	s := set.Of(all[:5]...)
	if s != 1<<9+1<<3 || !slices.Equal(all, before) {
		t.Errorf("Of is %#x, and made %v of %v", uint64(s), all, before)
	}
	all[0] = 5
	if !s.Has(9) || s.Has(5) {
		t.Error("the set hangs on the list of which it was made")
	}
}

// TestOneMoreOneLess: With, Without and Has, of all sorts of sets, at all sorts of numbers.
func TestOneMoreOneLess(t *testing.T) {
	for _, m := range some() {
		s := m.told()
		for _, n := range numbers() {
			more, less, has := m, m, false
			if there(n) {
				more[n], less[n], has = true, false, m[n]
			}
			if got := s.With(n); got != more.told() {
				t.Errorf("%#x With(%d) is %#x", uint64(s), n, uint64(got))
			}
			if got := s.Without(n); got != less.told() {
				t.Errorf("%#x Without(%d) is %#x", uint64(s), n, uint64(got))
			}
			if s.Has(n) != has {
				t.Errorf("%#x Has(%d) is %t", uint64(s), n, !has)
			}
			if s != m.told() {
				t.Errorf("%#x was changed into %#x", uint64(m.told()), uint64(s))
			}
		}
	}
}

// TestOutside: a number that there isn't leaves a set as it is, and is in none.
func TestOutside(t *testing.T) {
	for _, n := range []int{-1, -64, 64, 70, 128, math.MinInt64, math.MaxInt64} {
		for _, s := range []set.Set{0, 1, 9, 1 << 63, full} {
			if s.With(n) != s || s.Without(n) != s || s.Has(n) {
				t.Errorf("%#x, at %d: With %#x, Without %#x, Has %t", uint64(s), n, uint64(s.With(n)), uint64(s.Without(n)), s.Has(n))
			}
		}
	}
}

func TestLenFirstAllTold(t *testing.T) {
	for _, c := range []struct {
		s     set.Set
		first int
		all   []int
	}{
		{0, -1, nil},
		{1, 0, []int{0}},
		{2, 1, []int{1}},
		{9, 0, []int{0, 3}},
		{8, 3, []int{3}},
		{1 << 31, 31, []int{31}},
		{3 << 31, 31, []int{31, 32}},
		{1 << 32, 32, []int{32}},
		{1 << 63, 63, []int{63}},
		{1<<63 + 1, 0, []int{0, 63}},
		{3 << 62, 62, []int{62, 63}},
		{0xf0, 4, []int{4, 5, 6, 7}},
	} {
		if n := c.s.Len(); n != len(c.all) {
			t.Errorf("Len of %#x is %d", uint64(c.s), n)
		}
		if n := c.s.First(); n != c.first {
			t.Errorf("First of %#x is %d, not %d", uint64(c.s), n, c.first)
		}
		if l := c.s.All(); !slices.Equal(l, c.all) {
			t.Errorf("All of %#x is %v, not %v", uint64(c.s), l, c.all)
		}
	}
}

func TestLenFirstAll(t *testing.T) {
	for _, m := range some() {
		s, l, first := m.told(), m.rising(), -1
		if len(l) > 0 {
			first = l[0]
		}
		if s.Len() != len(l) || s.First() != first || !slices.Equal(s.All(), l) {
			t.Errorf("of %#x: Len %d, First %d, All %v, not %d, %d, %v", uint64(s), s.Len(), s.First(), s.All(), len(l), first, l)
		}
		if again := set.Of(s.All()...); again != s {
			t.Errorf("Of(All) of %#x is %#x", uint64(s), uint64(again))
		}
	}
}

// TestAllIsNew: R5 and R6: no two answers share anything, and writing to one, or beyond it, changes no later one.
func TestAllIsNew(t *testing.T) {
	for _, s := range []set.Set{9, 1 << 63, full} {
		want := slices.Clone(s.All())
		a, b := s.All(), s.All()
		for i := range a {
			a[i] = -7
		}
		a = append(a, -8)
		if !slices.Equal(b, want) || !slices.Equal(s.All(), want) || a[0] != -7 {
			t.Errorf("All of %#x is %v, then %v", uint64(s), b, s.All())
		}
	}
}

func TestTwoTold(t *testing.T) {
	for _, c := range []struct{ s, o, and, or, less set.Set }{
		{0, 0, 0, 0, 0},
		{9, 0, 0, 9, 9},
		{0, 9, 0, 9, 0},
		{9, 9, 9, 9, 0},
		{9, 12, 8, 13, 1},
		{12, 9, 8, 13, 4},
		{5, 10, 0, 15, 5},
		{full, 9, 9, full, full - 9},
		{9, full, 9, full, 0},
		{full, full, full, full, 0},
		{1 << 63, 1, 0, 1<<63 + 1, 1 << 63},
		{1 << 63, 1<<63 + 1, 1 << 63, 1<<63 + 1, 0},
	} {
		if s := c.s.And(c.o); s != c.and {
			t.Errorf("%#x And(%#x) is %#x", uint64(c.s), uint64(c.o), uint64(s))
		}
		if s := c.s.Or(c.o); s != c.or {
			t.Errorf("%#x Or(%#x) is %#x", uint64(c.s), uint64(c.o), uint64(s))
		}
		if s := c.s.Less(c.o); s != c.less {
			t.Errorf("%#x Less(%#x) is %#x", uint64(c.s), uint64(c.o), uint64(s))
		}
	}
}

// TestTwo: And, Or and Less, number by number.
func TestTwo(t *testing.T) {
	l := some()
	for _, a := range l {
		for _, b := range l {
			var and, or, less members
			for n := range a {
				and[n], or[n], less[n] = a[n] && b[n], a[n] || b[n], a[n] && !b[n]
			}
			s, o := a.told(), b.told()
			if s.And(o) != and.told() || s.Or(o) != or.told() || s.Less(o) != less.told() {
				t.Errorf("%#x, %#x: And %#x, Or %#x, Less %#x", uint64(s), uint64(o), uint64(s.And(o)), uint64(s.Or(o)), uint64(s.Less(o)))
			}
		}
	}
}

// TestSameAgain: P1 and R6: every call answers at any sets and numbers, and doesn't hang on the calls ahead of it.
func TestSameAgain(t *testing.T) {
	r := rand.New(rand.NewSource(3))
	for range 20000 {
		s, o, n := set.Set(r.Uint64()), set.Set(r.Uint64()), int(r.Uint64())>>r.Intn(64)
		with, without, has, of := s.With(n), s.Without(n), s.Has(n), set.Of(n, 3, n)
		and, or, less, l := s.And(o), s.Or(o), s.Less(o), s.All()
		o.With(63)
		o.Without(o.First())
		set.Of(o.All()...)
		if s.With(n) != with || s.Without(n) != without || s.Has(n) != has || set.Of(n, 3, n) != of {
			t.Errorf("With, Without, Has or Of of %#x and %d changes", uint64(s), n)
		}
		if s.And(o) != and || s.Or(o) != or || s.Less(o) != less || !slices.Equal(s.All(), l) {
			t.Errorf("And, Or, Less or All of %#x and %#x changes", uint64(s), uint64(o))
		}
		if s.Len() != len(l) || len(l) > 0 && s.First() != l[0] {
			t.Errorf("of %#x: Len %d, First %d, All %v", uint64(s), s.Len(), s.First(), l)
		}
	}
}
