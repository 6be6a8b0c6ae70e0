package show_test

import (
	"fmt"
	"math"
	"math/rand"
	"slices"
	"strings"
	"testing"
	"text/template"

	"wharfage/api"
	"wharfage/inst"
	"wharfage/parse"
	"wharfage/show"
)

const (
	lowest, most = math.MinInt64, math.MaxInt64
	great        = 1000000000 // The greatest number of an instance.
	fleet        = 60         // The most vehicles of a fleet.
	sats         = 12         // The most satellites.
	customers    = 48         // The most customers.
)

// box is an instance's text as the chapters have it.
const box = `wharfage {{.End}}
trucks {{.Trucks.Many}} {{.Trucks.Room}}
bikes {{.Bikes.Many}} {{.Bikes.Room}}
satellites {{len .Sats}}
{{range .Sats}}{{.Room}} {{.Hold}}
{{end}}customers {{len .Customers}}
{{range .Customers}}{{.Load}} {{.Open}} {{.Close}} {{.Stay}}
{{end}}cost
{{range .Cost}}{{template "row" .}}
{{end}}time
{{range .Time}}{{template "row" .}}
{{end}}end
{{define "row"}}{{range $i, $n := .}}{{if $i}} {{end}}{{$n}}{{end}}{{end}}`

var filled = template.Must(template.New("").Parse(box))

// byBox: what Text must answer.
func byBox(t *testing.T, x inst.Instance) string {
	t.Helper()
	var b strings.Builder
	if err := filled.Execute(&b, x); err != nil {
		t.Fatal(err)
	}
	return b.String()
}

// byPrint: what Line must answer.
func byPrint(name string, l []int64) string {
	var all []any
	if name != "" {
		all = append(all, name)
	}
	for _, n := range l {
		all = append(all, n)
	}
	return fmt.Sprintln(all...)
}

// line: Line must answer that, and so must what prints.
func line(t *testing.T, want, name string, l ...int64) {
	t.Helper()
	if s := show.Line(name, l...); s != want {
		t.Errorf("Line(%.80q, %.80v) is %.80q, not %.80q", name, l, s, want)
	}
	if s := byPrint(name, l); s != want {
		t.Errorf("Line(%.80q, %.80v) is %.80q by what prints, not %.80q", name, l, s, want)
	}
}

// boxed: Text must answer what the box does; that.
func boxed(t *testing.T, what string, x inst.Instance) string {
	t.Helper()
	s, want := show.Text(x), byBox(t, x)
	if s != want {
		t.Errorf("%s: Text(%.200v) is %.300q, not %.300q", what, x, s, want)
	}
	return s
}

// back: of an instance that may be the Text must be read as it, and told again as it was.
func back(t *testing.T, what string, x inst.Instance) {
	t.Helper()
	if e := x.Check(); e != api.OK {
		t.Fatalf("%s: Check is %d", what, e)
	}
	s := show.Text(x)
	if len(s) > api.MaxText {
		t.Errorf("%s: the Text has %d bytes", what, len(s))
	}
	y, at, code := parse.Parse(s)
	if !inst.Same(y, x) || at != 0 || code != api.OK {
		t.Errorf("%s: Parse(%.200q) is %.200v, %d, %d, not %.200v", what, s, y, at, code, x)
	}
	if again := show.Text(y); again != s {
		t.Errorf("%s: told again it is %.200q, not %.200q", what, again, s)
	}
}

// rows: a matrix of n rows of n numbers, from a node to itself 0.
func rows(n int, next func(low, high int64) int64) [][]int64 {
	l := make([][]int64, n)
	for i := range l {
		l[i] = make([]int64, n)
		for k := range l[i] {
			if i != k {
				l[i][k] = next(0, great)
			}
		}
	}
	return l
}

// made: an instance of so many satellites and customers, of numbers that next tells: they may be from low to high.
func made(s, c int, next func(low, high int64) int64) inst.Instance {
	x := inst.Instance{End: next(0, great)}
	for _, f := range []*inst.Fleet{&x.Trucks, &x.Bikes} {
		f.Many = int(next(1, fleet))
		f.Room = next(0, great)
	}
	for range s {
		x.Sats = append(x.Sats, inst.Sat{Room: next(0, great), Hold: next(0, great)})
	}
	for range c {
		one := inst.Customer{Load: next(1, great), Open: next(0, great)}
		one.Close = next(one.Open, great)
		one.Stay = next(0, great)
		x.Customers = append(x.Customers, one)
	}
	x.Cost, x.Time = rows(x.Nodes(), next), rows(x.Nodes(), next)
	return x
}

// rising: the numbers from 11 on, one by one: no two of an instance are the same, and all of them may be.
func rising() func(low, high int64) int64 {
	n := int64(10)
	return func(_, _ int64) int64 {
		n++
		return n
	}
}

// of: an instance no two of whose numbers are the same.
func of(s, c int) inst.Instance { return made(s, c, rising()) }

// drawn: numbers of all sizes, many of them at their edges.
func drawn(r *rand.Rand) func(low, high int64) int64 {
	return func(low, high int64) int64 {
		switch r.Intn(5) {
		case 0:
			return low
		case 1:
			return high
		case 2:
			return low + r.Int63n(min(high-low, 9)+1)
		}
		return low + r.Int63n(high-low+1)
	}
}

// least, greatest: all numbers as small, as great as may be.
func least(low, _ int64) int64     { return low }
func greatest(_, high int64) int64 { return high }

// spare: a list with room behind it, in which the rest stands.
func spare[T any](l []T, rest ...T) []T {
	return append(slices.Clone(l), rest...)[:len(l)]
}

// one: the document's example.
var one = inst.Instance{
	End: 40, Trucks: inst.Fleet{Many: 1, Room: 9}, Bikes: inst.Fleet{Many: 1, Room: 9},
	Sats: []inst.Sat{{Room: 9, Hold: 3}}, Customers: []inst.Customer{{Load: 5, Open: 9, Close: 20, Stay: 1}},
	Cost: [][]int64{{0, 2, 2}, {2, 0, 2}, {2, 2, 0}}, Time: [][]int64{{0, 4, 4}, {4, 0, 4}, {4, 4, 0}},
}

// oneText is its text.
const oneText = `wharfage 40
trucks 1 9
bikes 1 9
satellites 1
9 3
customers 1
5 9 20 1
cost
0 2 2
2 0 2
2 2 0
time
0 4 4
4 0 4
4 4 0
end
`

func TestExamples(t *testing.T) {
	line(t, "bikes 3 20\n", "bikes", 3, 20)
	line(t, "7\n", "", 7)
	if s := show.Text(one); s != oneText {
		t.Errorf("Text is %q", s)
	}
	back(t, "the document's", one)
}

// TestLine: P13.1: with a name and without one, of no number, of one and of many.
func TestLine(t *testing.T) {
	line(t, "\n", "")
	line(t, "cost\n", "cost")
	line(t, "wharfage 0\n", "wharfage", 0)
	line(t, "0\n", "", 0)
	line(t, "0 0\n", "", 0, 0)
	line(t, "1 2 3\n", "", 1, 2, 3)
	line(t, "1 0 5 4\n", "", 1, 0, 5, 4)
	line(t, "a 1 2 3\n", "a", 1, 2, 3)
	line(t, "-1 -20\n", "", -1, -20)
	line(t, "a -9223372036854775808 9223372036854775807\n", "a", lowest, most)
	line(t, "1000000000 1000000000000000\n", "", great, api.MaxWhole)
	if s := show.Line("a", []int64{}...); s != "a\n" {
		t.Errorf("of an empty list it is %q", s)
	}
	if s := show.Line("", []int64{}...); s != "\n" {
		t.Errorf("of an empty list, without a name, it is %q", s)
	}
}

// TestLineNames: a name is told as it is, whatever stands in it.
func TestLineNames(t *testing.T) {
	for _, name := range []string{
		"a b", " ", "  ", " a", "a ", "\n", "a\n", "#", "# a", "7", "-", "0", "\t", "\x00", "\x00\x00", "a\x00", "\r\n", "\xff\xfe", "\u00e9\u4e16", "%d", "%", "\"",
	} {
		line(t, name+"\n", name)
		line(t, name+" 7\n", name, 7)
		line(t, name+" 7 -8\n", name, 7, -8)
	}
}

// TestLineNumbers: each number as chapter 1 tells it, wherever it stands.
func TestLineNumbers(t *testing.T) {
	l := []int64{lowest, lowest + 1, most - 1, most, 1 << 31, 1<<31 - 1, -1 << 31, 1 << 32, -1 << 32, great, great + 1, api.MaxWhole, api.MaxWhole + 1}
	for n := int64(1); n <= most/10; n *= 10 {
		l = append(l, n-1, n, n+1, -n+1, -n, -n-1)
	}
	for _, n := range l {
		own := fmt.Sprint(n)
		line(t, own+"\n", "", n)
		line(t, "a "+own+"\n", "a", n)
		line(t, own+" "+own+" 0\n", "", n, n, 0)
	}
	line(t, byPrint("", l), "", l...)
	line(t, byPrint("a", l), "a", l...)
}

func TestLineAtRandom(t *testing.T) {
	r := rand.New(rand.NewSource(1))
	for range 3000 {
		l := make([]int64, r.Intn(70))
		for i := range l {
			l[i] = int64(r.Uint64()) >> r.Intn(64)
		}
		name := make([]byte, r.Intn(9)*r.Intn(2))
		r.Read(name)
		line(t, byPrint(string(name), l), string(name), l...)
	}
}

func TestLineLong(t *testing.T) {
	l := make([]int64, 300000)
	for i := range l {
		l[i] = int64(i) * 1000003
	}
	line(t, byPrint("long", l), "long", l...)
	name := strings.Repeat("long", 300000)
	line(t, name+" 1 2\n", name, 1, 2)
}

// TestTextPlaced: P13.2: each number in its own place (numbers of which no two are the same).
func TestTextPlaced(t *testing.T) {
	x := inst.Instance{
		End: 11, Trucks: inst.Fleet{Many: 12, Room: 13}, Bikes: inst.Fleet{Many: 14, Room: 15},
		Sats:      []inst.Sat{{Room: 16, Hold: 17}, {Room: 18, Hold: 19}},
		Customers: []inst.Customer{{Load: 20, Open: 21, Close: 22, Stay: 23}},
		Cost:      [][]int64{{0, 31, 32, 33}, {34, 0, 35, 36}, {37, 38, 0, 39}, {40, 41, 42, 0}},
		Time:      [][]int64{{0, 51, 52, 53}, {54, 0, 55, 56}, {57, 58, 0, 59}, {60, 61, 62, 0}},
	}
	const want = "wharfage 11\ntrucks 12 13\nbikes 14 15\nsatellites 2\n16 17\n18 19\ncustomers 1\n20 21 22 23\n" +
		"cost\n0 31 32 33\n34 0 35 36\n37 38 0 39\n40 41 42 0\ntime\n0 51 52 53\n54 0 55 56\n57 58 0 59\n60 61 62 0\nend\n"
	if s := show.Text(x); s != want {
		t.Errorf("Text is %q", s)
	}
	boxed(t, "placed", x)
	back(t, "placed", x)
}

// TestTextLines: the box's eight lines, one of each satellite and customer, two of each node; no blank at an end, nor two of them together.
func TestTextLines(t *testing.T) {
	for _, c := range [][2]int{{1, 1}, {1, 2}, {2, 1}, {3, 5}, {sats, 1}, {1, customers}, {sats, customers}} {
		x := of(c[0], c[1])
		s := boxed(t, "lines", x)
		if n := strings.Count(s, "\n"); n != 8+c[0]+c[1]+2*x.Nodes() {
			t.Errorf("of %v there are %d lines", c, n)
		}
		for l := range strings.Lines(s) {
			if strings.TrimSpace(l)+"\n" != l || strings.Contains(l, "  ") {
				t.Errorf("of %v there is a line %q", c, l)
			}
		}
	}
}

// TestTextReadBack: P13.3 and P12.2: of each number of satellites and customers that may be.
func TestTextReadBack(t *testing.T) {
	for s := 1; s <= sats; s++ {
		for c := 1; c <= customers; c++ {
			back(t, fmt.Sprint(s, " satellites and ", c, " customers"), of(s, c))
		}
	}
}

// TestTextEdges: all numbers as small, and as great, as may be: the longest Text has no more bytes than may be.
func TestTextEdges(t *testing.T) {
	for _, c := range [][2]int{{1, 1}, {2, 3}, {sats, customers}} {
		for _, next := range []func(low, high int64) int64{least, greatest} {
			x := made(c[0], c[1], next)
			boxed(t, "edges", x)
			back(t, "edges", x)
		}
	}
	if n := len(show.Text(made(sats, customers, greatest))); n < 80000 || n > api.MaxText {
		t.Errorf("the longest Text has %d bytes", n)
	}
}

func TestTextAtRandom(t *testing.T) {
	r := rand.New(rand.NewSource(2))
	for range 100 {
		x := made(1+r.Intn(sats), 1+r.Intn(customers), drawn(r))
		boxed(t, "at random", x)
		back(t, "at random", x)
	}
	for range 1000 {
		x := made(1+r.Intn(2), 1+r.Intn(2), drawn(r))
		boxed(t, "a little one", x)
		back(t, "a little one", x)
	}
}

// TestTextOfTexts: however an instance's text stands in lines, what is read is told in those of the box.
func TestTextOfTexts(t *testing.T) {
	for _, c := range [][2]int{{1, 1}, {2, 3}, {sats, customers}} {
		want := byBox(t, of(c[0], c[1]))
		words := strings.Fields(want)
		for _, between := range []string{" ", "\n", " \n \n\n  ", "# 7 end\n"} {
			s := "# all\n" + strings.Join(words, between) + " # of it"
			x, at, code := parse.Parse(s)
			if code != api.OK {
				t.Fatalf("Parse is %d, %d", at, code)
			}
			if told := show.Text(x); told != want {
				t.Errorf("of %.80q Text is %.200q, not %.200q", s, told, want)
			}
		}
	}
}

// TestTextOfNone: of an instance of nothing there are the box's words.
func TestTextOfNone(t *testing.T) {
	const want = "wharfage 0\ntrucks 0 0\nbikes 0 0\nsatellites 0\ncustomers 0\ncost\ntime\nend\n"
	empty := inst.Instance{Sats: []inst.Sat{}, Customers: []inst.Customer{}, Cost: [][]int64{}, Time: [][]int64{}}
	for _, x := range []inst.Instance{{}, empty} {
		if s := boxed(t, "nothing", x); s != want {
			t.Errorf("Text is %q", s)
		}
	}
	// R4: rows without a number, be they nil or empty, are a line each.
	for _, row := range [][]int64{nil, {}} {
		x := inst.Instance{Cost: [][]int64{row, row}, Time: [][]int64{row}}
		if s := boxed(t, "empty rows", x); s != strings.Replace(strings.Replace(want, "cost\n", "cost\n\n\n", 1), "time\n", "time\n\n", 1) {
			t.Errorf("of empty rows Text is %q", s)
		}
	}
}

// TestTextOfWrong: an instance that may not be is told as it is, and not read.
func TestTextOfWrong(t *testing.T) {
	for _, c := range []struct {
		what   string
		change func(x *inst.Instance)
		code   api.Errno
	}{
		{"End below 0", func(x *inst.Instance) { x.End = -1 }, api.ErrForm},
		{"End as small as a number is", func(x *inst.Instance) { x.End = lowest }, api.ErrForm},
		{"End too great", func(x *inst.Instance) { x.End = great + 1 }, api.ErrRange},
		{"no truck", func(x *inst.Instance) { x.Trucks.Many = 0 }, api.ErrRange},
		{"too many trucks", func(x *inst.Instance) { x.Trucks.Many = fleet + 1 }, api.ErrRange},
		{"a truck less than none", func(x *inst.Instance) { x.Trucks.Many = -1 }, api.ErrForm},
		{"more bikes than 32 bits hold", func(x *inst.Instance) { x.Bikes.Many = 1 << 32 }, api.ErrRange},
		{"as many bikes as a number tells", func(x *inst.Instance) { x.Bikes.Many = most }, api.ErrForm},
		{"no satellite", func(x *inst.Instance) { x.Sats = nil }, api.ErrRange},
		{"one satellite more", func(x *inst.Instance) { x.Sats = append(x.Sats, inst.Sat{}) }, api.ErrRange},
		{"too many satellites", func(x *inst.Instance) { x.Sats = make([]inst.Sat, sats+1) }, api.ErrRange},
		{"a satellite's Hold below 0", func(x *inst.Instance) { x.Sats[1].Hold = -3 }, api.ErrForm},
		{"no customer", func(x *inst.Instance) { x.Customers = nil }, api.ErrRange},
		{"one customer less", func(x *inst.Instance) { x.Customers = x.Customers[1:] }, api.ErrRange},
		{"too many customers", func(x *inst.Instance) { x.Customers = make([]inst.Customer, customers+1) }, api.ErrRange},
		{"Load 0", func(x *inst.Instance) { x.Customers[0].Load = 0 }, api.ErrRange},
		{"Close ahead of Open", func(x *inst.Instance) { x.Customers[2].Close = x.Customers[2].Open - 1 }, api.ErrRange},
		{"no Cost", func(x *inst.Instance) { x.Cost = nil }, api.ErrForm},
		{"a row of Cost less", func(x *inst.Instance) { x.Cost = x.Cost[1:] }, api.ErrRange},
		{"a longer row of Cost", func(x *inst.Instance) { x.Cost[5] = append(x.Cost[5], 7) }, api.ErrWord},
		{"a number of Cost below 0", func(x *inst.Instance) { x.Cost[0][1] = -7 }, api.ErrForm},
		{"a row of Time more", func(x *inst.Instance) { x.Time = append(x.Time, []int64{7}) }, api.ErrWord},
		{"an empty row of Time", func(x *inst.Instance) { x.Time[5] = nil }, api.ErrForm},
		{"Time from a node to itself", func(x *inst.Instance) { x.Time[3][3] = 7 }, api.ErrRange},
	} {
		x := of(2, 3)
		c.change(&x)
		if x.Check() == api.OK {
			t.Errorf("%s: Check has no error", c.what)
		}
		if _, _, code := parse.Parse(boxed(t, c.what, x)); code != c.code {
			t.Errorf("%s: Parse of the Text is %d, not %d", c.what, code, c.code)
		}
	}
}

// wild: an instance of any numbers, with lists of any lengths.
func wild(r *rand.Rand) inst.Instance {
	number := func() int64 { return int64(r.Uint64()) >> r.Intn(64) }
	x := inst.Instance{End: number(), Trucks: inst.Fleet{Many: int(number()), Room: number()}, Bikes: inst.Fleet{Many: int(number()), Room: number()}}
	for range r.Intn(4) {
		x.Sats = append(x.Sats, inst.Sat{Room: number(), Hold: number()})
	}
	for range r.Intn(4) {
		x.Customers = append(x.Customers, inst.Customer{Load: number(), Open: number(), Close: number(), Stay: number()})
	}
	for _, at := range []*[][]int64{&x.Cost, &x.Time} {
		for range r.Intn(5) {
			var row []int64
			for range r.Intn(5) {
				row = append(row, number())
			}
			*at = append(*at, row)
		}
	}
	return x
}

// TestTextOfAnything: P1: it ends, whatever it is handed.
func TestTextOfAnything(t *testing.T) {
	r := rand.New(rand.NewSource(3))
	for range 1000 {
		boxed(t, "anything", wild(r))
	}
	// Longer by far than a text that is read.
	x := made(40, 200, drawn(r))
	if n := len(boxed(t, "a great one", x)); n <= api.MaxText {
		t.Errorf("the Text has %d bytes", n)
	}
}

// TestLeavesWhatItGets: R5: neither the lists that are handed in nor their spare room are changed.
func TestLeavesWhatItGets(t *testing.T) {
	l := spare([]int64{3, 20}, 5, 6)
	line(t, "bikes 3 20\n", "bikes", l...)
	line(t, "3 20\n", "", l...)
	if !slices.Equal(l[:4], []int64{3, 20, 5, 6}) {
		t.Errorf("Line leaves %v", l[:4])
	}
	x := of(2, 3)
	x.Sats, x.Customers = spare(x.Sats, inst.Sat{Room: 5}), spare(x.Customers, inst.Customer{Load: 5})
	for _, at := range []*[][]int64{&x.Cost, &x.Time} {
		for i, row := range *at {
			(*at)[i] = spare(row, 5, 6)
		}
		*at = spare(*at, []int64{7})
	}
	boxed(t, "spare room", x)
	if !inst.Same(x, of(2, 3)) {
		t.Errorf("Text leaves %v", x)
	}
	if x.Sats[:3][2].Room != 5 || x.Customers[:4][3].Load != 5 {
		t.Errorf("Text changes what is behind satellites or customers")
	}
	for _, all := range [][][]int64{x.Cost, x.Time} {
		for _, row := range all {
			if !slices.Equal(row[len(row):len(row)+2], []int64{5, 6}) {
				t.Errorf("Text changes what is behind a row")
			}
		}
		if !slices.Equal(all[:7][6], []int64{7}) {
			t.Errorf("Text changes what is behind the rows")
		}
	}
}

// TestKeepsNothing: R5: what was told isn't changed by what is done to an instance, or a list, behind that.
func TestKeepsNothing(t *testing.T) {
	l := []int64{1, 2}
	told := show.Line("a", l...)
	l[0] = 7
	x := of(2, 3)
	s, want := show.Text(x), byBox(t, x)
	x.Sats[0].Room, x.Customers[1].Stay, x.Cost[1][2], x.Time[4] = 0, 0, 0, nil
	if told != "a 1 2\n" || s != want {
		t.Errorf("told were %q and %.200q", told, s)
	}
	boxed(t, "changed", x)
}

// TestSameAgain: R6: what was told ahead of it doesn't matter.
func TestSameAgain(t *testing.T) {
	for range 3 {
		boxed(t, "one", of(2, 3))
		boxed(t, "none", inst.Instance{})
		boxed(t, "another one", of(1, 2))
		line(t, "a 1\n", "a", 1)
		line(t, "\n", "")
	}
}
