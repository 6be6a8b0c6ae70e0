package real_test

import (
	"math"
	"math/big"
	"math/rand"
	"slices"
	"strings"
	"testing"

	"wharfage/real"
)

var (
	above     = math.Inf(1)
	below     = math.Inf(-1)
	none      = math.NaN()
	minus     = math.Copysign(0, -1)
	least     = math.SmallestNonzeroFloat64
	leastFull = math.Float64frombits(1 << 52) // the least float with all its digits
)

// rising: floats, each Less than all behind it.
func rising() []float64 {
	up := []float64{least, 2 * least, math.Nextafter(leastFull, 0), leastFull, 1e-300, 0.0005, 0.001,
		math.Nextafter(1, 0), 1, math.Nextafter(1, 2), 1.9999, 1000, 1 << 32,
		math.Nextafter(1e15, 0), 1e15, math.Nextafter(1e15, 2e15), 1 << 53, 1 << 63, 1e300, math.MaxFloat64}
	l := []float64{below}
	for i := len(up) - 1; i >= 0; i-- {
		l = append(l, -up[i])
	}
	l = append(l, minus, 0)
	l = append(l, up...)
	return append(l, above, none)
}

// nones: floats that are no number, of all sorts.
func nones() []float64 {
	l := []float64{none, -none, above - above, 0 * below}
	for _, bits := range []uint64{0x7ff0000000000001, 0xfff0000000000001, 0x7fffffffffffffff, 0xffffffffffffffff, 0xfff8000000000000} {
		l = append(l, math.Float64frombits(bits))
	}
	return l
}

// edges: whole numbers at which floats begin to round, or which are the last ones.
func edges() []int64 {
	l := []int64{0, math.MaxInt64, math.MinInt64, math.MinInt64 + 1, 3, -3, 7, 10, 1000000000, 1000000000000000}
	for bit := range 63 {
		p := int64(1) << bit
		l = append(l, p-1, p, p+1, -p-1, -p, -p+1)
	}
	return l
}

// same: are both the same float, the nought's sign looked at, or both no number?
func same(a, b float64) bool {
	if a != a || b != b {
		return a != a && b != b
	}
	return math.Float64bits(a) == math.Float64bits(b)
}

// float: any bits.
func float(r *rand.Rand) float64 { return math.Float64frombits(r.Uint64()) }

// rounded: what an operation makes of two numbers, worked out without end, then rounded once.
func rounded(a, b float64, op func(z, x, y *big.Float) *big.Float) float64 {
	z := new(big.Float).SetPrec(2400)
	f, _ := op(z, big.NewFloat(a), big.NewFloat(b)).Float64()
	return f
}

// quotient: a by b, b not 0, rounded once; a rational number has no end of digits that a float would need.
func quotient(a, b float64) float64 {
	f, _ := new(big.Rat).Quo(new(big.Rat).SetFloat64(a), new(big.Rat).SetFloat64(b)).Float64()
	if f == 0 && math.Signbit(a) != math.Signbit(b) {
		return math.Copysign(0, -1)
	}
	return f
}

// asFloat: a whole number, rounded once.
func asFloat(n int64) float64 {
	f, _ := new(big.Rat).SetInt64(n).Float64()
	return f
}

func TestOfTold(t *testing.T) {
	for _, c := range []struct {
		x    float64
		want real.Kind
	}{
		{below, real.Below},
		{-math.MaxFloat64, real.Negative},
		{-1, real.Negative},
		{-least, real.Negative},
		{minus, real.MinusNought},
		{0, real.Nought},
		{least, real.Positive},
		{math.Nextafter(leastFull, 0), real.Positive},
		{1, real.Positive},
		{math.MaxFloat64, real.Positive},
		{above, real.Above},
		{none, real.None},
	} {
		if k := real.Of(c.x); k != c.want {
			t.Errorf("Of(%v) is %d, not %d", c.x, k, c.want)
		}
	}
	for _, x := range nones() {
		if k := real.Of(x); k != real.None {
			t.Errorf("Of(%#x) is %d, not None", math.Float64bits(x), k)
		}
	}
}

// kindByBits: a kind by the float's bits alone.
func kindByBits(x float64) real.Kind {
	const inf = 0x7ff << 52
	bits := math.Float64bits(x)
	size, signed := bits&^(1<<63), bits>>63 == 1
	switch {
	case size > inf:
		return real.None
	case size == inf && signed:
		return real.Below
	case size == inf:
		return real.Above
	case size == 0 && signed:
		return real.MinusNought
	case size == 0:
		return real.Nought
	case signed:
		return real.Negative
	}
	return real.Positive
}

func TestOfAtRandom(t *testing.T) {
	r := rand.New(rand.NewSource(1))
	for range 100000 {
		x := float(r)
		if r.Intn(4) == 0 { // no number, or an infinity
			x = math.Float64frombits(math.Float64bits(x) | 0x7ff<<52)
		}
		if k, want := real.Of(x), kindByBits(x); k != want {
			t.Errorf("Of(%#x) is %d, not %d", math.Float64bits(x), k, want)
		}
	}
}

// TestKindsRise: the kinds' numbers are the order in which Less has them.
func TestKindsRise(t *testing.T) {
	l := []real.Kind{real.Below, real.Negative, real.MinusNought, real.Nought, real.Positive, real.Above, real.None}
	for i, k := range l {
		if int(k) != i {
			t.Errorf("kind %d is %d", i, int(k))
		}
	}
}

func TestLessOfRising(t *testing.T) {
	l := rising()
	for i, a := range l {
		for k, b := range l {
			if less := real.Less(a, b); less != (i < k) {
				t.Errorf("Less(%v, %v) is %t", a, b, less)
			}
		}
	}
}

func TestLessOfNones(t *testing.T) {
	for _, a := range nones() {
		for _, b := range nones() {
			if real.Less(a, b) {
				t.Errorf("Less(%#x, %#x) is true", math.Float64bits(a), math.Float64bits(b))
			}
		}
		for _, b := range []float64{below, -1, minus, 0, 1, above} {
			if real.Less(a, b) || !real.Less(b, a) {
				t.Errorf("no number (%#x) isn't behind %v", math.Float64bits(a), b)
			}
		}
	}
}

func TestLessAtRandom(t *testing.T) {
	r := rand.New(rand.NewSource(2))
	for range 100000 {
		a, b := float(r), float(r)
		want := a < b
		if ka, kb := kindByBits(a), kindByBits(b); ka != kb {
			want = ka < kb
		}
		if less := real.Less(a, b); less != want {
			t.Errorf("Less(%v, %v) is %t", a, b, less)
		}
	}
}

func TestFirstTold(t *testing.T) {
	for _, c := range []struct {
		l    []float64
		want int
	}{
		{nil, -1},
		{[]float64{}, -1},
		{[]float64{7}, 0},
		{[]float64{none}, 0},
		{[]float64{above}, 0},
		{[]float64{3, 1, 2}, 1},
		{[]float64{3, 2, 1}, 2},
		{[]float64{1, 2, 3}, 0},
		{[]float64{2, 1, 1}, 1},
		{[]float64{1, 1, 1}, 0},
		{[]float64{0, minus, minus}, 1},
		{[]float64{minus, 0}, 0},
		{[]float64{0, minus, -least}, 2},
		{[]float64{none, none}, 0},
		{[]float64{none, above}, 1},
		{[]float64{none, 5, none, 4, none}, 3},
		{[]float64{above, none, above}, 0},
		{[]float64{1, below, none, below}, 1},
		{[]float64{-1, -math.MaxFloat64, 0}, 1},
	} {
		if i := real.First(c.l); i != c.want {
			t.Errorf("First(%v) is %d, not %d", c.l, i, c.want)
		}
	}
}

// firstPlain: the words, as they stand.
func firstPlain(l []float64) int {
	for i, x := range l {
		if !slices.ContainsFunc(l, func(y float64) bool { return real.Less(y, x) }) {
			return i
		}
	}
	return -1
}

func TestFirstAtRandom(t *testing.T) {
	r := rand.New(rand.NewSource(3))
	some := append(rising(), nones()...)
	for range 20000 {
		l := make([]float64, r.Intn(7))
		for i := range l {
			l[i] = some[r.Intn(len(some))]
		}
		if i, want := real.First(l), firstPlain(l); i != want {
			t.Errorf("First(%v) is %d, not %d", l, i, want)
		}
	}
}

// TestFirstLeavesItsList: R5, spare room included.
func TestFirstLeavesItsList(t *testing.T) {
	all := []float64{3, minus, none, 0, above, -8, -9}
	before := slices.Clone(all)
	i := real.First(all[:5])
	if i != 1 || !slices.EqualFunc(all, before, same) {
		t.Errorf("First is %d, and made %v of %v", i, all, before)
	}
}

func TestRatioTold(t *testing.T) {
	for _, c := range []struct {
		a, b int64
		want float64
	}{
		{1, 2, 0.5},
		{-1, 2, -0.5},
		{1, -2, -0.5},
		{-1, -2, 0.5},
		{1, 3, 1.0 / 3},
		{7, 7, 1},
		{0, 5, 0},
		{0, -5, minus},
		{0, 0, none},
		{5, 0, above},
		{-5, 0, below},
		{1<<53 + 1, 1, 1 << 53},
		{1<<53 + 3, 1, 1<<53 + 4},
		{math.MaxInt64, 1, 1 << 63},
		{math.MinInt64, -1, 1 << 63},
		{math.MinInt64, 1, -1 << 63},
		{math.MaxInt64, math.MinInt64, -1},
		{1, math.MinInt64, -1.0 / (1 << 63)},
		{math.MaxInt64, math.MaxInt64 - 1, 1},
	} {
		if x := real.Ratio(c.a, c.b); !same(x, c.want) {
			t.Errorf("Ratio(%d, %d) is %v, not %v", c.a, c.b, x, c.want)
		}
	}
}

func TestGapTold(t *testing.T) {
	for _, c := range []struct {
		cost, bound int64
		want        float64
	}{
		{12, 8, 0.5},
		{8, 8, 0},
		{4, 8, -0.5},
		{8, -8, -2},
		{-8, -8, minus},
		{0, 8, -1},
		{0, 0, none},
		{5, 0, above},
		{-5, 0, below},
		{4, 3, 1.0 / 3},
		// A float has neither of these apart from the bound.
		{1<<53 + 1, 1 << 53, 0},
		{math.MaxInt64, math.MaxInt64 - 1, 0},
		// As whole numbers these would go round.
		{math.MaxInt64, -1, -(1 << 63)},
		{math.MaxInt64, math.MinInt64, -2},
		{math.MinInt64, math.MaxInt64, -2},
		{math.MinInt64, 1, -(1 << 63)},
	} {
		if x := real.Gap(c.cost, c.bound); !same(x, c.want) {
			t.Errorf("Gap(%d, %d) is %v, not %v", c.cost, c.bound, x, c.want)
		}
	}
}

// byNought: a by the nought without a sign.
func byNought(a float64) float64 {
	switch {
	case a > 0:
		return above
	case a < 0:
		return below
	}
	return none
}

// checkRatio: Ratio and Gap, against numbers without end that are rounded at each step.
func checkRatio(t *testing.T, a, b int64) {
	x, y := asFloat(a), asFloat(b)
	diff := rounded(x, y, (*big.Float).Sub)
	ratio, gap := byNought(x), byNought(diff)
	if b != 0 {
		ratio, gap = quotient(x, y), quotient(diff, y)
	}
	if got := real.Ratio(a, b); !same(got, ratio) {
		t.Errorf("Ratio(%d, %d) is %v, not %v", a, b, got, ratio)
	}
	if got := real.Gap(a, b); !same(got, gap) {
		t.Errorf("Gap(%d, %d) is %v, not %v", a, b, got, gap)
	}
}

func TestRatioAndGap(t *testing.T) {
	l := edges()
	for _, a := range l {
		for _, b := range l {
			checkRatio(t, a, b)
		}
	}
	r := rand.New(rand.NewSource(4))
	for range 20000 {
		checkRatio(t, int64(r.Uint64())>>r.Intn(64), int64(r.Uint64())>>r.Intn(64))
	}
}

func TestCoolTold(t *testing.T) {
	for _, c := range []struct{ heat, by, want float64 }{
		{100, 0.5, 50},
		{0.1, 3, 0.30000000000000004},
		{1, 1, 1},
		{-2, 3, -6},
		{-2, -3, 6},
		{0, 5, 0},
		{0, -5, minus},
		{minus, -5, 0},
		{5, minus, minus},
		{above, 2, above},
		{above, -2, below},
		{below, -2, above},
		{above, 0, none},
		{minus, below, none},
		{none, 1, none},
		{1, none, none},
		{none, 0, none},
		{math.MaxFloat64, 2, above},
		{math.MaxFloat64, -2, below},
		{least, 0.5, 0},
		{least, -0.5, minus},
		{least, 0.75, least},
		{3 * least, 0.5, 2 * least},
	} {
		if x := real.Cool(c.heat, c.by); !same(x, c.want) {
			t.Errorf("Cool(%v, %v) is %v, not %v", c.heat, c.by, x, c.want)
		}
	}
}

func TestCoolAtRandom(t *testing.T) {
	r := rand.New(rand.NewSource(5))
	for range 20000 {
		a, b := float(r), float(r)
		if r.Intn(3) > 0 { // so that the product is often among the least floats
			a, b = math.Ldexp(1+r.Float64(), -500-r.Intn(50)), math.Ldexp(1+r.Float64(), -500-r.Intn(50))
		}
		if math.IsNaN(a) || math.IsNaN(b) || math.IsInf(a, 0) || math.IsInf(b, 0) {
			continue
		}
		want := rounded(a, b, (*big.Float).Mul)
		if x := real.Cool(a, b); !same(x, want) {
			t.Errorf("Cool(%v, %v) is %v, not %v", a, b, x, want)
		}
	}
}

func TestAcceptTold(t *testing.T) {
	const half, last = 1 << 31, 1<<32 - 1
	for _, c := range []struct {
		change int64
		heat   float64
		draw   uint32
		want   bool
	}{
		{1, 1, half - 1, true},
		{1, 1, half, false},
		{1, 1, last, false},
		{1, 1, 0, true},
		{3, 1, 1<<30 - 1, true},
		{3, 1, 1 << 30, false},
		{1, 2, 2863311530, true},
		{1, 2, 2863311531, false},
		// What is to be had without rounding is just below 2^32, the product isn't.
		{1, 3, 3221225471, true},
		{1, 3, 3221225472, false},
		{5, 1e300, last, true},
		{math.MaxInt64, 1e300, last, true},
		{math.MaxInt64, math.MaxFloat64, last, true},
		{math.MaxInt64, 1, 0, true},
		{math.MaxInt64, 1, 1, false},
		{1 << 32, 1, 1, false},
		{1<<32 - 1, 1, 1, false},
		{1<<32 - 2, 1, 1, true},
		// The change by the heat has no end: nothing, so often, is no number, which isn't less.
		{1, least, 0, false},
		{1, least, 1, false},
		{math.MaxInt64, 1e-300, 0, false},
		{1, 1e-300, 0, true},
		{1, 1e-300, 1, false},
	} {
		if yes := real.Accept(c.change, c.heat, c.draw); yes != c.want {
			t.Errorf("Accept(%d, %v, %d) is %t", c.change, c.heat, c.draw, yes)
		}
	}
}

// TestAcceptByKind: what the heat's kind, and the change's sign, say already.
func TestAcceptByKind(t *testing.T) {
	for _, draw := range []uint32{0, 1, 1 << 31, 1<<32 - 1} {
		for _, change := range []int64{math.MinInt64, -5, -1, 0, 1, 5, math.MaxInt64} {
			if !real.Accept(change, above, draw) {
				t.Errorf("Accept(%d, %v, %d) is false", change, above, draw)
			}
			for _, heat := range append(nones(), below, -math.MaxFloat64, -1, -least, minus, 0) {
				if yes := real.Accept(change, heat, draw); yes != (change <= 0) {
					t.Errorf("Accept(%d, %v, %d) is %t", change, heat, draw, yes)
				}
			}
			for _, heat := range []float64{least, 1e-9, 1, 1e9, math.MaxFloat64} {
				if change <= 0 && !real.Accept(change, heat, draw) {
					t.Errorf("Accept(%d, %v, %d) is false", change, heat, draw)
				}
			}
		}
	}
}

// acceptPlain: the words, of a heat and a change above 0, each step worked out without end and rounded by itself.
func acceptPlain(change int64, heat float64, draw uint32) bool {
	by := quotient(asFloat(change), heat)
	if math.IsInf(by, 0) {
		return false
	}
	sum := rounded(1, by, (*big.Float).Add)
	return rounded(float64(draw), sum, (*big.Float).Mul) < 1<<32
}

func TestAcceptAtRandom(t *testing.T) {
	r := rand.New(rand.NewSource(6))
	for range 20000 {
		change := int64(r.Uint64()>>1)>>r.Intn(63) + 1
		if change < 1 {
			continue
		}
		heat := math.Ldexp(1+r.Float64(), r.Intn(80)-10)
		if r.Intn(3) == 0 {
			heat = float64(1 + r.Intn(9))
		}
		// The draws about which it turns.
		turn := min(4294967296/(1+float64(change)/heat), 1<<32-3)
		for step := range 5 {
			draw := uint32(max(turn+float64(step)-2, 0))
			if yes, want := real.Accept(change, heat, draw), acceptPlain(change, heat, draw); yes != want {
				t.Errorf("Accept(%d, %v, %d) is %t", change, heat, draw, yes)
			}
		}
	}
}

func TestTextTold(t *testing.T) {
	for _, c := range []struct {
		x    float64
		want string
	}{
		{none, "none"},
		{above, "endless"},
		{below, "-endless"},
		{0, "0.000"},
		{minus, "-0.000"},
		{least, "0.000"},
		{-least, "-0.000"},
		{0.0009, "0.000"},
		{0.001, "0.001"},
		{-0.001, "-0.001"},
		{0.0019, "0.001"},
		{0.01, "0.010"},
		{0.025, "0.025"},
		{0.5, "0.500"},
		{0.9999, "0.999"},
		{-0.9999, "-0.999"},
		{1, "1.000"},
		{1.9999, "1.999"},
		{-1.9999, "-1.999"},
		{9.25, "9.250"},
		{12.5, "12.500"},
		{-12.5, "-12.500"},
		{100, "100.000"},
		{1234567.891, "1234567.891"},
		// The float is a little below what is written: the product is rounded to the whole number, or isn't.
		{0.29, "0.290"},
		{1.001, "1.000"},
		{math.Nextafter(1, 0), "0.999"},
		{math.Nextafter(0.003, 0), "0.002"},
		{1 << 32, "4294967296.000"},
		{281474976710656.5, "281474976710656.512"},
		// From 2^53 on the product itself can't have all its digits.
		{999999999999999, "999999999999998.976"},
		{math.Nextafter(1e15, 0), "999999999999999.872"},
		{-math.Nextafter(1e15, 0), "-999999999999999.872"},
		{1e15, "great"},
		{-1e15, "-great"},
		{math.Nextafter(1e15, 2e15), "great"},
		{1e16, "great"},
		{1 << 63, "great"},
		{math.MaxFloat64, "great"},
		{-math.MaxFloat64, "-great"},
	} {
		if s := real.Text(c.x); s != c.want {
			t.Errorf("Text(%v) is %q, not %q", c.x, s, c.want)
		}
	}
	for _, x := range nones() {
		if s := real.Text(x); s != "none" {
			t.Errorf("Text(%#x) is %q", math.Float64bits(x), s)
		}
	}
}

// textPlain: the words, of a number above 0 and below 10^15.
func textPlain(x float64) string {
	n, _ := big.NewFloat(rounded(x, 1000, (*big.Float).Mul)).Int(nil)
	whole, rest := new(big.Int).QuoRem(n, big.NewInt(1000), new(big.Int))
	behind := rest.String()
	return whole.String() + "." + strings.Repeat("0", 3-len(behind)) + behind
}

func TestTextAtRandom(t *testing.T) {
	r := rand.New(rand.NewSource(7))
	for range 50000 {
		x := math.Ldexp(1+r.Float64(), r.Intn(64)-15)
		if r.Intn(3) == 0 { // numbers as they are written: the product is often rounded to a whole one
			x = float64(r.Intn(1000000)) / 1000
		}
		if x <= 0 || x >= 1e15 {
			continue
		}
		want := textPlain(x)
		if s := real.Text(x); s != want {
			t.Errorf("Text(%v) is %q, not %q", x, s, want)
		}
		if s := real.Text(-x); s != "-"+want {
			t.Errorf("Text(%v) is %q, not %q", -x, s, "-"+want)
		}
	}
}

// TestTextRounds: there are floats at which the product's own rounding tells: without it the digits would be others.
func TestTextRounds(t *testing.T) {
	told := 0
	for n := range int64(5000) {
		x := float64(n) / 1000
		exact := new(big.Rat).Mul(new(big.Rat).SetFloat64(x), big.NewRat(1000, 1))
		if exact.Cmp(new(big.Rat).SetInt64(n)) < 0 && float64(x*1000) == float64(n) {
			told++
			if s, want := real.Text(x), textPlain(x); s != want {
				t.Errorf("Text(%v) is %q, not %q", x, s, want)
			}
		}
	}
	if told == 0 {
		t.Error("no such float was met")
	}
}

// TestAcceptRounds: heats at which a draw times what is told of it comes to 2^32 but for the last bits, where any other way to work it out tells otherwise.
func TestAcceptRounds(t *testing.T) {
	r := rand.New(rand.NewSource(8))
	told := 0
	for range 20000 {
		draw := r.Uint32()>>1 | 1<<31
		turn := 4294967296 / float64(draw)
		for _, sum := range []float64{math.Nextafter(turn, 1), turn, math.Nextafter(turn, 3)} {
			heat := 1 / (sum - 1)
			if sum <= 1 || 1+1/heat != sum {
				continue
			}
			yes, want := real.Accept(1, heat, draw), acceptPlain(1, heat, draw)
			if yes != want {
				t.Errorf("Accept(1, %v, %d) is %t", heat, draw, yes)
			}
			if want != (float64(draw) < 4294967296/sum) {
				told++
			}
		}
	}
	if told == 0 {
		t.Error("no such heat was met")
	}
}

// TestSameAgain: R6 and P1: every call answers at any floats, and the same each time.
func TestSameAgain(t *testing.T) {
	l := append(rising(), nones()...)
	for _, a := range l {
		if real.Of(a) != real.Of(a) || real.Text(a) != real.Text(a) {
			t.Errorf("Of or Text of %v changes", a)
		}
		for _, b := range l {
			if real.Less(a, b) != real.Less(a, b) || !same(real.Cool(a, b), real.Cool(a, b)) {
				t.Errorf("Less or Cool of %v, %v changes", a, b)
			}
		}
		for _, change := range edges() {
			for _, draw := range []uint32{0, 1, 1<<32 - 1} {
				if real.Accept(change, a, draw) != real.Accept(change, a, draw) {
					t.Errorf("Accept(%d, %v, %d) changes", change, a, draw)
				}
			}
		}
	}
}
