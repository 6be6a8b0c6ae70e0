package whole_test

import (
	"math"
	"math/big"
	"math/rand"
	"slices"
	"strconv"
	"strings"
	"testing"

	"wharfage/api"
	"wharfage/whole"
)

// edges: numbers at which something may go round, and their neighbours.
func edges() []int64 {
	l := []int64{0, math.MaxInt64, math.MinInt64, math.MinInt64 + 1, 3037000499, 3037000500, -3037000499, -3037000500}
	for bit := range 63 {
		p := int64(1) << bit
		l = append(l, p-1, p, p+1, -p-1, -p, -p+1)
	}
	for p := int64(10); p <= api.MaxWhole; p *= 10 {
		l = append(l, p-1, p, p+1, -p-1, -p, -p+1)
	}
	return l
}

// fitted: what a call must answer whose true answer is x.
func fitted(x *big.Int) (int64, bool) {
	if !x.IsInt64() {
		return 0, false
	}
	return x.Int64(), true
}

func TestR1IntHas64Bits(t *testing.T) {
	if strconv.IntSize != 64 {
		t.Errorf("int has %d bits", strconv.IntSize)
	}
}

func TestAddTold(t *testing.T) {
	for _, c := range []struct {
		a, b, want int64
		ok         bool
	}{
		{0, 0, 0, true},
		{2, 3, 5, true},
		{2, -3, -1, true},
		{-2, -3, -5, true},
		{math.MaxInt64, 0, math.MaxInt64, true},
		{math.MaxInt64 - 1, 1, math.MaxInt64, true},
		{math.MaxInt64, 1, 0, false},
		{1, math.MaxInt64, 0, false},
		{math.MaxInt64, math.MaxInt64, 0, false},
		{math.MinInt64, 0, math.MinInt64, true},
		{math.MinInt64 + 1, -1, math.MinInt64, true},
		{math.MinInt64, -1, 0, false},
		{-1, math.MinInt64, 0, false},
		{math.MinInt64, math.MinInt64, 0, false},
		{math.MinInt64, math.MaxInt64, -1, true},
		{1 << 62, 1 << 62, 0, false},
		{-1 << 62, -1 << 62, math.MinInt64, true},
	} {
		if n, ok := whole.Add(c.a, c.b); n != c.want || ok != c.ok {
			t.Errorf("Add(%d, %d) is %d, %t, not %d, %t", c.a, c.b, n, ok, c.want, c.ok)
		}
	}
}

func TestMulTold(t *testing.T) {
	for _, c := range []struct {
		a, b, want int64
		ok         bool
	}{
		{0, 0, 0, true},
		{0, math.MinInt64, 0, true},
		{math.MinInt64, 0, 0, true},
		{6, 7, 42, true},
		{-6, 7, -42, true},
		{-6, -7, 42, true},
		{math.MaxInt64, 1, math.MaxInt64, true},
		{math.MaxInt64, -1, -math.MaxInt64, true},
		{math.MinInt64, 1, math.MinInt64, true},
		{1, math.MinInt64, math.MinInt64, true},
		{math.MinInt64, -1, 0, false},
		{-1, math.MinInt64, 0, false},
		{math.MinInt64, 2, 0, false},
		{math.MinInt64, math.MinInt64, 0, false},
		{math.MinInt64, math.MaxInt64, 0, false},
		{-1 << 62, 2, math.MinInt64, true},
		{2, -1 << 62, math.MinInt64, true},
		{-1 << 62, -2, 0, false},
		{1 << 62, 2, 0, false},
		{1 << 32, 1 << 31, 0, false},
		{1 << 32, 1 << 32, 0, false},
		{1 << 32, -1 << 31, math.MinInt64, true},
		{3037000499, 3037000499, 9223372030926249001, true},
		{3037000500, 3037000500, 0, false},
	} {
		if n, ok := whole.Mul(c.a, c.b); n != c.want || ok != c.ok {
			t.Errorf("Mul(%d, %d) is %d, %t, not %d, %t", c.a, c.b, n, ok, c.want, c.ok)
		}
	}
}

// checkPair: Add, Mul and Ceil, against numbers without end.
func checkPair(t *testing.T, a, b int64) {
	x, y := big.NewInt(a), big.NewInt(b)
	want, fits := fitted(new(big.Int).Add(x, y))
	if n, ok := whole.Add(a, b); n != want || ok != fits {
		t.Errorf("Add(%d, %d) is %d, %t, not %d, %t", a, b, n, ok, want, fits)
	}
	want, fits = fitted(new(big.Int).Mul(x, y))
	if n, ok := whole.Mul(a, b); n != want || ok != fits {
		t.Errorf("Mul(%d, %d) is %d, %t, not %d, %t", a, b, n, ok, want, fits)
	}
	want = 0
	if a >= 0 && b >= 1 {
		up := new(big.Int).Add(x, new(big.Int).Sub(y, big.NewInt(1)))
		want = up.Div(up, y).Int64()
	}
	if n := whole.Ceil(a, b); n != want {
		t.Errorf("Ceil(%d, %d) is %d, not %d", a, b, n, want)
	}
}

func TestPairs(t *testing.T) {
	l := edges()
	for _, a := range l {
		for _, b := range l {
			checkPair(t, a, b)
		}
	}
	for a := int64(-12); a <= 12; a++ {
		for b := int64(-12); b <= 12; b++ {
			checkPair(t, a, b)
		}
	}
	r := rand.New(rand.NewSource(1))
	for range 20000 {
		checkPair(t, int64(r.Uint64())>>r.Intn(64), int64(r.Uint64())>>r.Intn(64))
	}
}

func TestSumTold(t *testing.T) {
	for _, c := range []struct {
		l    []int64
		want int64
		ok   bool
	}{
		{nil, 0, true},
		{[]int64{}, 0, true},
		{[]int64{0}, 0, true},
		{[]int64{-7}, -7, true},
		{[]int64{1, 2, 3, 4}, 10, true},
		{[]int64{5, -9, 1}, -3, true},
		{[]int64{math.MaxInt64}, math.MaxInt64, true},
		{[]int64{math.MinInt64}, math.MinInt64, true},
		{[]int64{math.MaxInt64, -1, 1}, math.MaxInt64, true},
		{[]int64{-1, math.MaxInt64, 1}, math.MaxInt64, true},
		{[]int64{math.MaxInt64, math.MinInt64, 1}, 0, true},
		// What is added later doesn't help.
		{[]int64{math.MaxInt64, 1}, 0, false},
		{[]int64{math.MaxInt64, 1, -1}, 0, false},
		{[]int64{1, math.MaxInt64, -1}, 0, false},
		{[]int64{math.MaxInt64, 1, -5, -9}, 0, false},
		{[]int64{math.MinInt64, -1, 5}, 0, false},
		{[]int64{-1, math.MinInt64, 5}, 0, false},
		{[]int64{math.MaxInt64, 5, math.MinInt64}, 0, false},
		{[]int64{1 << 62, 1 << 62, 1 << 62, 1 << 62}, 0, false},
		{[]int64{3, math.MaxInt64, 7}, 0, false},
	} {
		if n, ok := whole.Sum(c.l); n != c.want || ok != c.ok {
			t.Errorf("Sum(%v) is %d, %t, not %d, %t", c.l, n, ok, c.want, c.ok)
		}
	}
}

func TestSumAtRandom(t *testing.T) {
	r := rand.New(rand.NewSource(2))
	for range 20000 {
		l := make([]int64, r.Intn(7))
		want, fits := new(big.Int), true
		for i := range l {
			l[i] = int64(r.Uint64()) >> r.Intn(5)
			want.Add(want, big.NewInt(l[i]))
			fits = fits && want.IsInt64()
		}
		told := want.Int64()
		if !fits {
			told = 0
		}
		if n, ok := whole.Sum(l); n != told || ok != fits {
			t.Errorf("Sum(%v) is %d, %t, not %d, %t", l, n, ok, told, fits)
		}
	}
}

// TestSumLeavesItsList: R5, spare room included.
func TestSumLeavesItsList(t *testing.T) {
	for _, all := range [][]int64{
		{3, -4, 5, 11, 12},
		{math.MaxInt64, 1, -1, 11, 12},
	} {
		before := slices.Clone(all)
		n, ok := whole.Sum(all[:3])
		if !slices.Equal(all, before) {
			t.Errorf("Sum changed %v into %v", before, all)
		}
		if again, same := whole.Sum(all[:3]); again != n || same != ok {
			t.Errorf("Sum(%v) is %d, %t, then %d, %t", all[:3], n, ok, again, same)
		}
	}
}

func TestCeilTold(t *testing.T) {
	for _, c := range []struct{ a, b, want int64 }{
		{7, 2, 4},
		{6, 2, 3},
		{5, 2, 3},
		{0, 1, 0},
		{0, 9, 0},
		{1, 9, 1},
		{9, 9, 1},
		{10, 9, 2},
		{5, 1, 5},
		{-1, 2, 0},
		{-7, 2, 0},
		{-7, -2, 0},
		{7, 0, 0},
		{7, -1, 0},
		{7, -2, 0},
		{0, 0, 0},
		{math.MinInt64, -1, 0},
		{math.MinInt64, 1, 0},
		{1, math.MinInt64, 0},
		{math.MaxInt64, 1, math.MaxInt64},
		{math.MaxInt64, 2, 1 << 62},
		{math.MaxInt64, math.MaxInt64, 1},
		{math.MaxInt64 - 1, math.MaxInt64, 1},
		{math.MaxInt64, math.MaxInt64 - 1, 2},
	} {
		if n := whole.Ceil(c.a, c.b); n != c.want {
			t.Errorf("Ceil(%d, %d) is %d, not %d", c.a, c.b, n, c.want)
		}
	}
}

func TestParseTold(t *testing.T) {
	for s, want := range map[string]int64{
		"0":                0,
		"1":                1,
		"7":                7,
		"9":                9,
		"10":               10,
		"907":              907,
		"1234567890":       1234567890,
		"4294967296":       4294967296,
		"999999999999999":  999999999999999,
		"1000000000000000": api.MaxWhole,
	} {
		if n, ok := whole.Parse(s); n != want || !ok {
			t.Errorf("Parse(%q) is %d, %t, not %d, true", s, n, ok, want)
		}
	}
}

func TestParseRefuses(t *testing.T) {
	for _, s := range []string{
		"", "00", "07", "000", "01000",
		"-", "+", "-0", "+0", "-1", "+1", "1-",
		" ", " 1", "1 ", "1 2", "1\n", "\t1", "1\x00", "\x001",
		"a", "1a", "a1", "0x1", "1e3", "1.0", ".5", "1_000", "1,000", "/", ":", "1/", "1:",
		"\xff", "1\xff", "5\xc3", "\u0663", "1\u0663", "\uff11", "\U0001d7d9", "\u00b2",
		"1000000000000001", "1000000000000010", "2000000000000000", "9999999999999999",
		"10000000000000000", "99999999999999999",
		"9223372036854775807", "9223372036854775808", "18446744073709551615",
		// They would be small, were they to go round.
		"18446744073709551616", "18446744073709551617", "340282366920938463463374607431768211457",
		"1" + strings.Repeat("0", 64), strings.Repeat("9", 5000), strings.Repeat("0", 5000),
	} {
		if n, ok := whole.Parse(s); n != 0 || ok {
			t.Errorf("Parse(%q) is %d, %t, not 0, false", s, n, ok)
		}
	}
}

// TestParseShort: all texts of one byte, and of two.
func TestParseShort(t *testing.T) {
	digit := func(b int) bool { return b >= '0' && b <= '9' }
	for a := range 256 {
		want, fits := int64(0), digit(a)
		if fits {
			want = int64(a - '0')
		}
		if n, ok := whole.Parse(string([]byte{byte(a)})); n != want || ok != fits {
			t.Errorf("Parse of byte %d is %d, %t, not %d, %t", a, n, ok, want, fits)
		}
		for b := range 256 {
			want, fits = 0, digit(a) && a != '0' && digit(b)
			if fits {
				want = int64(a-'0')*10 + int64(b-'0')
			}
			if n, ok := whole.Parse(string([]byte{byte(a), byte(b)})); n != want || ok != fits {
				t.Errorf("Parse of bytes %d, %d is %d, %t, not %d, %t", a, b, n, ok, want, fits)
			}
		}
	}
}

func TestTextTold(t *testing.T) {
	for n, want := range map[int64]string{
		0:             "0",
		7:             "7",
		10:            "10",
		-1:            "-1",
		-10:           "-10",
		1000:          "1000",
		-907:          "-907",
		api.MaxWhole:  "1000000000000000",
		math.MaxInt64: "9223372036854775807",
		math.MinInt64: "-9223372036854775808",
	} {
		if s := whole.Text(n); s != want {
			t.Errorf("Text(%d) is %q, not %q", n, s, want)
		}
	}
}

// TestTextParsed: Text against numbers without end, and Parse of it, just where the number is from 0 to MaxWhole.
func TestTextParsed(t *testing.T) {
	l := edges()
	r := rand.New(rand.NewSource(3))
	for range 20000 {
		l = append(l, int64(r.Uint64())>>r.Intn(64))
	}
	for _, n := range l {
		s := whole.Text(n)
		if want := big.NewInt(n).String(); s != want {
			t.Errorf("Text(%d) is %q, not %q", n, s, want)
		}
		want, fits := n, n >= 0 && n <= api.MaxWhole
		if !fits {
			want = 0
		}
		if got, ok := whole.Parse(s); got != want || ok != fits {
			t.Errorf("Parse(%q) is %d, %t, not %d, %t", s, got, ok, want, fits)
		}
	}
}

func TestSumLong(t *testing.T) {
	l := make([]int64, 1000)
	for i := range l {
		l[i] = int64(i + 1)
	}
	if n, ok := whole.Sum(l); n != 500500 || !ok {
		t.Errorf("Sum of 1 to 1000 is %d, %t", n, ok)
	}
	l[999] = math.MaxInt64 - 499500
	if n, ok := whole.Sum(l); n != math.MaxInt64 || !ok {
		t.Errorf("Sum up to the greatest number is %d, %t", n, ok)
	}
	l[999]++
	if n, ok := whole.Sum(l); n != 0 || ok {
		t.Errorf("Sum beyond the greatest number is %d, %t", n, ok)
	}
}

// TestSameAgain: R6: what a call answers doesn't hang on the calls ahead of it.
func TestSameAgain(t *testing.T) {
	for range 3 {
		whole.Add(math.MaxInt64, 1)
		if n, ok := whole.Add(4, 5); n != 9 || !ok {
			t.Errorf("Add(4, 5) is %d, %t", n, ok)
		}
		whole.Mul(math.MinInt64, -1)
		if n, ok := whole.Mul(4, 5); n != 20 || !ok {
			t.Errorf("Mul(4, 5) is %d, %t", n, ok)
		}
		whole.Sum([]int64{math.MaxInt64, 1})
		if n, ok := whole.Sum([]int64{4, 5}); n != 9 || !ok {
			t.Errorf("Sum(4, 5) is %d, %t", n, ok)
		}
		whole.Ceil(-1, 0)
		if n := whole.Ceil(9, 2); n != 5 {
			t.Errorf("Ceil(9, 2) is %d", n)
		}
		whole.Parse("1x")
		if n, ok := whole.Parse("45"); n != 45 || !ok {
			t.Errorf("Parse(45) is %d, %t", n, ok)
		}
		whole.Text(-9)
		if s := whole.Text(45); s != "45" {
			t.Errorf("Text(45) is %q", s)
		}
	}
}
