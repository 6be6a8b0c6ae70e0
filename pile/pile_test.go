package pile_test

import (
	"math"
	"math/rand"
	"slices"
	"testing"

	"wharfage/pile"
)

// ahead: which of two comes first, below 0, 0 or above, told apart from any heap.
func ahead(a, b pile.Item) int {
	switch {
	case a.Key < b.Key:
		return -1
	case a.Key > b.Key:
		return 1
	case a.ID < b.ID:
		return -1
	case a.ID > b.ID:
		return 1
	}
	return 0
}

// heap: a pile of these, put in their order.
func heap(l []pile.Item) *pile.Pile {
	p := pile.New()
	for _, x := range l {
		p.Put(x)
	}
	return p
}

// emptied: all that comes out of a pile, whose Len must fall by one each time, and Take be false of none then.
func emptied(t *testing.T, p *pile.Pile) []pile.Item {
	t.Helper()
	var l []pile.Item
	for n := p.Len(); n > 0; n-- {
		x, ok := p.Take()
		if !ok || p.Len() != n-1 {
			t.Fatalf("of %d: Take is %v, %v; Len then is %d", n, x, ok, p.Len())
		}
		l = append(l, x)
	}
	none(t, p)
	return l
}

// none: the pile has none, and stays so, however often it is asked.
func none(t *testing.T, p *pile.Pile) {
	t.Helper()
	for range 3 {
		if n := p.Len(); n != 0 {
			t.Errorf("Len of none is %d", n)
		}
		if x, ok := p.Take(); ok || x != (pile.Item{}) {
			t.Errorf("Take of none is %v, %v", x, ok)
		}
	}
}

func TestNew(t *testing.T) {
	if pile.New() == nil {
		t.Fatal("New is nil")
	}
	none(t, pile.New())
}

// TestTold: what comes out, in which order.
func TestTold(t *testing.T) {
	for _, c := range []struct{ put, want []pile.Item }{
		{nil, nil},
		{[]pile.Item{{2, 5}, {1, 9}, {1, 3}}, []pile.Item{{1, 3}, {1, 9}, {2, 5}}},
		{[]pile.Item{{}}, []pile.Item{{}}},
		{[]pile.Item{{7, 7}}, []pile.Item{{7, 7}}},
		{[]pile.Item{{1, 2}, {2, 1}}, []pile.Item{{1, 2}, {2, 1}}},
		{[]pile.Item{{2, 1}, {1, 2}}, []pile.Item{{1, 2}, {2, 1}}},
		{[]pile.Item{{0, 0}, {-1, 0}, {0, -1}}, []pile.Item{{-1, 0}, {0, -1}, {0, 0}}},
		{[]pile.Item{{4, 4}, {3, 3}, {4, 4}, {3, 3}, {4, 4}}, []pile.Item{{3, 3}, {3, 3}, {4, 4}, {4, 4}, {4, 4}}},
		{[]pile.Item{{5, 1}, {5, 1}}, []pile.Item{{5, 1}, {5, 1}}},
		{[]pile.Item{{6, 0}, {5, 0}, {4, 0}, {3, 0}, {2, 0}, {1, 0}}, []pile.Item{{1, 0}, {2, 0}, {3, 0}, {4, 0}, {5, 0}, {6, 0}}},
		{[]pile.Item{{1, 0}, {2, 0}, {3, 0}, {4, 0}, {5, 0}, {6, 0}}, []pile.Item{{1, 0}, {2, 0}, {3, 0}, {4, 0}, {5, 0}, {6, 0}}},
		{[]pile.Item{{0, 6}, {0, 5}, {0, 4}, {0, -3}, {0, 2}, {0, 1}}, []pile.Item{{0, -3}, {0, 1}, {0, 2}, {0, 4}, {0, 5}, {0, 6}}},
		// Those that lie further apart than an int64 holds.
		{[]pile.Item{{math.MaxInt64, 1}, {math.MinInt64, 2}, {0, 3}, {-2, 4}}, []pile.Item{{math.MinInt64, 2}, {-2, 4}, {0, 3}, {math.MaxInt64, 1}}},
		{[]pile.Item{{3, math.MaxInt64}, {3, math.MinInt64}, {3, -2}, {3, 0}}, []pile.Item{{3, math.MinInt64}, {3, -2}, {3, 0}, {3, math.MaxInt64}}},
		// Those that would change places, were they cut to 32 bits, or made floats.
		{[]pile.Item{{1 << 32, 1}, {1, 1}, {1<<31 + 5, 1}}, []pile.Item{{1, 1}, {1<<31 + 5, 1}, {1 << 32, 1}}},
		{[]pile.Item{{0, 1 << 32}, {0, 1}, {0, 1 << 31}}, []pile.Item{{0, 1}, {0, 1 << 31}, {0, 1 << 32}}},
		{[]pile.Item{{1<<53 + 1, 0}, {1 << 53, 1}, {1<<62 + 1, 0}, {1 << 62, 1}}, []pile.Item{{1 << 53, 1}, {1<<53 + 1, 0}, {1 << 62, 1}, {1<<62 + 1, 0}}},
	} {
		if l := emptied(t, heap(c.put)); !slices.Equal(l, c.want) {
			t.Errorf("of %v come %v, not %v", c.put, l, c.want)
		}
	}
}

// TestEachOrder: few items, in each order in which they can be put.
func TestEachOrder(t *testing.T) {
	want := []pile.Item{{-1, 4}, {0, 0}, {0, 0}, {0, 1}, {2, -7}, {2, 3}}
	var all func(l []pile.Item, n int)
	all = func(l []pile.Item, n int) {
		if n == len(l) {
			if got := emptied(t, heap(l)); !slices.Equal(got, want) {
				t.Errorf("of %v come %v", l, got)
			}
			return
		}
		for i := n; i < len(l); i++ {
			l[n], l[i] = l[i], l[n]
			all(l, n+1)
			l[n], l[i] = l[i], l[n]
		}
	}
	all(slices.Clone(want), 0)
}

// TestNil: of nil.
func TestNil(t *testing.T) {
	var p *pile.Pile
	none(t, p)
	p.Put(pile.Item{Key: 1, ID: 2})
	p.Put(pile.Item{})
	none(t, p)
}

// TestWithoutNew: a pile that New hasn't made has none, too, and takes as many.
func TestWithoutNew(t *testing.T) {
	var p pile.Pile
	none(t, &p)
	p.Put(pile.Item{Key: 3, ID: 1})
	p.Put(pile.Item{Key: 2, ID: 1})
	if l := emptied(t, &p); !slices.Equal(l, []pile.Item{{2, 1}, {3, 1}}) {
		t.Errorf("out come %v", l)
	}
}

// TestPutAfterTake: the pile goes on when it has had none, and when some were taken.
func TestPutAfterTake(t *testing.T) {
	p := heap([]pile.Item{{5, 5}, {1, 1}})
	if x, ok := p.Take(); !ok || x != (pile.Item{Key: 1, ID: 1}) {
		t.Errorf("Take is %v, %v", x, ok)
	}
	p.Put(pile.Item{Key: 9, ID: 9})
	p.Put(pile.Item{Key: 1, ID: 1})
	if n := p.Len(); n != 3 {
		t.Errorf("Len is %d", n)
	}
	if l := emptied(t, p); !slices.Equal(l, []pile.Item{{1, 1}, {5, 5}, {9, 9}}) {
		t.Errorf("out come %v", l)
	}
	p.Put(pile.Item{Key: 4, ID: 4})
	if l := emptied(t, p); !slices.Equal(l, []pile.Item{{4, 4}}) {
		t.Errorf("then out come %v", l)
	}
}

// TestApart: what is put on one pile isn't on another.
func TestApart(t *testing.T) {
	p, q := pile.New(), pile.New()
	if p == q {
		t.Fatal("New twice is the same pile")
	}
	p.Put(pile.Item{Key: 1, ID: 1})
	none(t, q)
	q.Put(pile.Item{Key: 2, ID: 2})
	q.Put(pile.Item{Key: 0, ID: 0})
	if p.Len() != 1 || q.Len() != 2 {
		t.Errorf("Len is %d and %d", p.Len(), q.Len())
	}
	if l := emptied(t, p); !slices.Equal(l, []pile.Item{{1, 1}}) {
		t.Errorf("out of the first come %v", l)
	}
	if l := emptied(t, q); !slices.Equal(l, []pile.Item{{0, 0}, {2, 2}}) {
		t.Errorf("out of the other come %v", l)
	}
}

// random: an item, of keys and numbers some of which are often the same.
func random(r *rand.Rand, spread int) pile.Item {
	if r.Intn(10) == 0 {
		ends := []int64{math.MinInt64, math.MinInt64 + 1, -1, 0, 1, math.MaxInt64 - 1, math.MaxInt64}
		return pile.Item{Key: ends[r.Intn(len(ends))], ID: int(ends[r.Intn(len(ends))])}
	}
	return pile.Item{Key: int64(r.Intn(spread) - spread/2), ID: r.Intn(spread) - spread/2}
}

// TestAtRandom: puts and takes in any order, beside a list that is kept in order.
func TestAtRandom(t *testing.T) {
	r := rand.New(rand.NewSource(4))
	for i := range 600 {
		p, l := pile.New(), []pile.Item{}
		spread, puts := 1+r.Intn(30), 1+r.Intn(3)
		for range 40 + i {
			if r.Intn(4) < puts {
				x := random(r, spread)
				p.Put(x)
				at, _ := slices.BinarySearchFunc(l, x, ahead)
				l = slices.Insert(l, at, x)
			} else {
				x, ok := p.Take()
				if ok != (len(l) > 0) || ok && x != l[0] || !ok && x != (pile.Item{}) {
					t.Fatalf("of %v: Take is %v, %v", l, x, ok)
				}
				if ok {
					l = l[1:]
				}
			}
			if p.Len() != len(l) {
				t.Fatalf("of %v: Len is %d", l, p.Len())
			}
		}
		if got := emptied(t, p); !slices.Equal(got, l) {
			t.Fatalf("at the end come %v, not %v", got, l)
		}
	}
}

// TestMany: as many as a graph has arcs, and more; each comes, in order.
func TestMany(t *testing.T) {
	r := rand.New(rand.NewSource(5))
	l := make([]pile.Item, 100000)
	for i := range l {
		l[i] = random(r, 1000)
	}
	p := heap(l)
	if p.Len() != len(l) {
		t.Errorf("Len is %d", p.Len())
	}
	got := emptied(t, p)
	slices.SortFunc(l, ahead)
	if !slices.Equal(got, l) {
		t.Error("what comes isn't what was put, in order")
	}
}

// TestSame: R6: what comes out depends on what is kept, not on the order in which it was put, nor on what was there once.
func TestSame(t *testing.T) {
	r := rand.New(rand.NewSource(6))
	for range 200 {
		l := make([]pile.Item, r.Intn(50))
		for i := range l {
			l[i] = random(r, 10)
		}
		first := emptied(t, heap(l))
		r.Shuffle(len(l), func(i, j int) { l[i], l[j] = l[j], l[i] })
		p := heap(l)
		emptied(t, p)
		for _, x := range l {
			p.Put(x)
		}
		if again := emptied(t, p); !slices.Equal(again, first) {
			t.Fatalf("%v, then %v", first, again)
		}
	}
}
