package parse_test

import (
	"math/rand"
	"reflect"
	"regexp"
	"slices"
	"strconv"
	"strings"
	"testing"

	"wharfage/api"
	"wharfage/inst"
	"wharfage/parse"
)

const (
	great     = 1000000000 // The greatest number of an instance.
	whole     = 1000000000000000
	fleet     = 60 // The most vehicles of a fleet.
	sats      = 12 // The most satellites.
	customers = 48 // The most customers.
)

// slot is where a word stands in an instance's text: the word that must be there; or, if that is empty, which numbers may be.
type slot struct {
	must      string
	low, high int64
	// What is done with the number, and what stands between it and the slots behind.
	take func(n int64) []slot
}

// to: a number's slot that is kept in one place.
func to(at *int64, low, high int64) slot {
	return slot{low: low, high: high, take: func(n int64) []slot {
		*at = n
		return nil
	}}
}

// fleetSlots: how many there are, and their Room.
func fleetSlots(f *inst.Fleet) []slot {
	many := slot{low: 1, high: fleet, take: func(n int64) []slot {
		f.Many = int(n)
		return nil
	}}
	return []slot{many, to(&f.Room, 0, great)}
}

// satelliteSlots: of so many.
func satelliteSlots(x *inst.Instance) slot {
	return slot{low: 1, high: sats, take: func(n int64) []slot {
		x.Sats = make([]inst.Sat, n)
		var l []slot
		for i := range x.Sats {
			l = append(l, to(&x.Sats[i].Room, 0, great), to(&x.Sats[i].Hold, 0, great))
		}
		return l
	}}
}

// customerSlots: of so many; from where Close may be is known when Open is.
func customerSlots(x *inst.Instance) slot {
	return slot{low: 1, high: customers, take: func(n int64) []slot {
		x.Customers = make([]inst.Customer, n)
		var l []slot
		for i := range x.Customers {
			c := &x.Customers[i]
			open := slot{low: 0, high: great, take: func(n int64) []slot {
				c.Open = n
				return []slot{to(&c.Close, n, great)}
			}}
			l = append(l, to(&c.Load, 1, great), open, to(&c.Stay, 0, great))
		}
		return l
	}}
}

// matrixSlots: how many rows there are is known when the word ahead of them is read.
func matrixSlots(name string, x *inst.Instance, rows *[][]int64) slot {
	return slot{must: name, take: func(int64) []slot {
		n := 1 + len(x.Sats) + len(x.Customers)
		*rows = make([][]int64, n)
		var l []slot
		for i := range n {
			(*rows)[i] = make([]int64, n)
			for k := range n {
				high := int64(great)
				if i == k {
					high = 0
				}
				l = append(l, to(&(*rows)[i][k], 0, high))
			}
		}
		return l
	}}
}

// slots: those of an instance's text, as far as they are known from the beginning on.
func slots(x *inst.Instance) []slot {
	l := []slot{{must: "wharfage"}, to(&x.End, 0, great), {must: "trucks"}}
	l = append(l, fleetSlots(&x.Trucks)...)
	l = append(append(l, slot{must: "bikes"}), fleetSlots(&x.Bikes)...)
	l = append(l, slot{must: "satellites"}, satelliteSlots(x), slot{must: "customers"}, customerSlots(x))
	return append(l, matrixSlots("cost", x, &x.Cost), matrixSlots("time", x, &x.Time), slot{must: "end"})
}

var (
	remark   = regexp.MustCompile("#[^\n]*")
	together = regexp.MustCompile("[^ \n]+")
	digits   = regexp.MustCompile("^(0|[1-9][0-9]{0,15})$")
)

// token is a word of a text, and where it begins.
type token struct {
	text string
	at   int
}

// tokens: a text's words; the byte that may not stand, and true, if there is one.
func tokens(s string) (l []token, bad int, wrong bool) {
	bad = strings.IndexFunc(s, func(r rune) bool { return r != '\n' && r < ' ' || r > '~' })
	if bad >= 0 {
		return nil, bad, true
	}
	plain := remark.ReplaceAllStringFunc(s, func(text string) string { return strings.Repeat(" ", len(text)) })
	for _, span := range together.FindAllStringIndex(plain, -1) {
		l = append(l, token{s[span[0]:span[1]], span[0]})
	}
	return l, 0, false
}

// fits: may the word stand in the slot? If it is a number, which.
func (a slot) fits(text string) (int64, api.Errno) {
	if a.must != "" {
		if text != a.must {
			return 0, api.ErrWord
		}
		return 0, api.OK
	}
	n, err := strconv.ParseInt(text, 10, 64)
	switch {
	case err != nil || !digits.MatchString(text) || n > whole:
		return 0, api.ErrForm
	case n < a.low || n > a.high:
		return 0, api.ErrRange
	}
	return n, api.OK
}

// ahead: some slots, and then others.
func ahead(l, rest []slot) []slot {
	if len(l) == 0 {
		return rest
	}
	return slices.Concat(l, rest)
}

// byWords: what Parse must answer, slot by slot.
func byWords(s string) (inst.Instance, int, api.Errno) {
	if len(s) > api.MaxText {
		return inst.Instance{}, 0, api.ErrSize
	}
	l, bad, wrong := tokens(s)
	if wrong {
		return inst.Instance{}, bad, api.ErrForm
	}
	var x inst.Instance
	for rest := slots(&x); len(rest) > 0; {
		a := rest[0]
		next := token{"", len(s)}
		if len(l) > 0 {
			next = l[0]
		}
		n, code := a.fits(next.text)
		if code != api.OK {
			return inst.Instance{}, next.at, code
		}
		l, rest = l[1:], rest[1:]
		if a.take != nil {
			rest = ahead(a.take(n), rest)
		}
	}
	if len(l) > 0 {
		return inst.Instance{}, l[0].at, api.ErrRest
	}
	return x, 0, api.OK
}

// square: a matrix of n rows of n numbers: from a node to itself 0, else low and more, no two the same.
func square(n int, low int64) [][]int64 {
	l := make([][]int64, n)
	for i := range l {
		l[i] = make([]int64, n)
		for k := range l[i] {
			if i != k {
				l[i][k] = low + int64(i*n+k)
			}
		}
	}
	return l
}

// of: an instance of so many satellites and customers, no two of whose numbers are the same.
func of(s, c int) inst.Instance {
	x := inst.Instance{
		End: 900, Trucks: inst.Fleet{Many: 2, Room: 90}, Bikes: inst.Fleet{Many: 5, Room: 80},
		Cost: square(1+s+c, 10000), Time: square(1+s+c, 20000),
	}
	for i := range int64(s) {
		x.Sats = append(x.Sats, inst.Sat{Room: 1000 + i, Hold: 2000 + i})
	}
	for i := range int64(c) {
		x.Customers = append(x.Customers, inst.Customer{Load: 3000 + i, Open: 4000 + i, Close: 5000 + i, Stay: 6000 + i})
	}
	return x
}

// told: the words of an instance's text.
func told(x inst.Instance) []string {
	var l []string
	add := func(name string, numbers ...int64) {
		if name != "" {
			l = append(l, name)
		}
		for _, n := range numbers {
			l = append(l, strconv.FormatInt(n, 10))
		}
	}
	add("wharfage", x.End)
	add("trucks", int64(x.Trucks.Many), x.Trucks.Room)
	add("bikes", int64(x.Bikes.Many), x.Bikes.Room)
	add("satellites", int64(len(x.Sats)))
	for _, s := range x.Sats {
		add("", s.Room, s.Hold)
	}
	add("customers", int64(len(x.Customers)))
	for _, c := range x.Customers {
		add("", c.Load, c.Open, c.Close, c.Stay)
	}
	add("cost", slices.Concat(x.Cost...)...)
	add("time", slices.Concat(x.Time...)...)
	return append(l, "end")
}

// joined: words as a text, a blank between.
func joined(l []string) string { return strings.Join(l, " ") }

// at: where the word of that number begins in what joined answers.
func at(l []string, i int) int { return len(joined(append(slices.Clone(l[:i]), ""))) }

// with: the words, but for one of them.
func with(l []string, i int, text string) []string {
	own := slices.Clone(l)
	own[i] = text
	return own
}

// parsed: Parse must read that instance, and so must the words.
func parsed(t *testing.T, what, s string, want inst.Instance) {
	t.Helper()
	x, place, code := parse.Parse(s)
	if !inst.Same(x, want) || place != 0 || code != api.OK {
		t.Errorf("%s: Parse(%.80q) is %.200v, %d, %d, not %.200v", what, s, x, place, code, want)
	}
	if e := x.Check(); e != api.OK {
		t.Errorf("%s: Check of what Parse(%.80q) reads is %d", what, s, e)
	}
	if x, place, code := byWords(s); !inst.Same(x, want) || place != 0 || code != api.OK {
		t.Errorf("%s: by the words (%.80q) it is %.200v, %d, %d", what, s, x, place, code)
	}
}

// refused: Parse must tell that error, at that place, and no instance; and so must the words.
func refused(t *testing.T, what, s string, place int, err api.Errno) {
	t.Helper()
	x, at, code := parse.Parse(s)
	if at != place || code != err {
		t.Errorf("%s: Parse(%.80q) is %d, %d, not %d, %d", what, s, at, code, place, err)
	}
	if !reflect.DeepEqual(x, inst.Instance{}) {
		t.Errorf("%s: beside an error Parse(%.80q) is %.200v", what, s, x)
	}
	if _, at, code := byWords(s); at != place || code != err {
		t.Errorf("%s: by the words (%.80q) it is %d, %d, not %d, %d", what, s, at, code, place, err)
	}
}

// asWords: Parse must answer what the words do, whatever that is.
func asWords(t *testing.T, what, s string) api.Errno {
	t.Helper()
	x, place, err := byWords(s)
	if err != api.OK {
		refused(t, what, s, place, err)
	} else {
		parsed(t, what, s, x)
	}
	return err
}

func TestExamples(t *testing.T) {
	refused(t, "the chapter's", "wharfage 5 trucks 0 9", 18, api.ErrRange)
	parsed(t, "the document's", `wharfage 40
trucks 1 9
bikes 1 9
satellites 1
9 3
customers 1
5 9 20 1
cost
0 2 2
2 0 2
2 2 0
time
0 4 4
4 0 4
4 4 0
end
`, inst.Instance{
		End: 40, Trucks: inst.Fleet{Many: 1, Room: 9}, Bikes: inst.Fleet{Many: 1, Room: 9},
		Sats: []inst.Sat{{Room: 9, Hold: 3}}, Customers: []inst.Customer{{Load: 5, Open: 9, Close: 20, Stay: 1}},
		Cost: [][]int64{{0, 2, 2}, {2, 0, 2}, {2, 2, 0}}, Time: [][]int64{{0, 4, 4}, {4, 0, 4}, {4, 4, 0}},
	})
}

// TestPlaced: each number goes to its own place (numbers of which no two are the same).
func TestPlaced(t *testing.T) {
	x := inst.Instance{
		End: 11, Trucks: inst.Fleet{Many: 12, Room: 13}, Bikes: inst.Fleet{Many: 14, Room: 15},
		Sats:      []inst.Sat{{Room: 16, Hold: 17}, {Room: 18, Hold: 19}},
		Customers: []inst.Customer{{Load: 20, Open: 21, Close: 22, Stay: 23}},
		Cost:      [][]int64{{0, 31, 32, 33}, {34, 0, 35, 36}, {37, 38, 0, 39}, {40, 41, 42, 0}},
		Time:      [][]int64{{0, 51, 52, 53}, {54, 0, 55, 56}, {57, 58, 0, 59}, {60, 61, 62, 0}},
	}
	parsed(t, "numbers", "wharfage 11 trucks 12 13 bikes 14 15 satellites 2 16 17 18 19 customers 1 20 21 22 23 "+
		"cost 0 31 32 33 34 0 35 36 37 38 0 39 40 41 42 0 time 0 51 52 53 54 0 55 56 57 58 0 59 60 61 62 0 end", x)
}

// TestManyNodes: of each number of satellites and customers that may be.
func TestManyNodes(t *testing.T) {
	for s := 1; s <= sats; s++ {
		for c := 1; c <= customers; c++ {
			x := of(s, c)
			if y, place, code := parse.Parse(joined(told(x))); !inst.Same(x, y) || place != 0 || code != api.OK {
				t.Errorf("of %d satellites and %d customers Parse is %d, %d", s, c, place, code)
			}
		}
	}
	parsed(t, "most of all", joined(told(of(sats, customers))), of(sats, customers))
	parsed(t, "least of all", joined(told(of(1, 1))), of(1, 1))
}

// TestLines: how words stand in lines doesn't matter, nor what stands in remarks.
func TestLines(t *testing.T) {
	x := of(2, 3)
	l := told(x)
	for what, between := range map[string]string{
		"blanks": " ", "newlines": "\n", "both": " \n \n\n  ", "remarks": "# 7 end\n", "remarks with blanks": " ##wharfage# \n  ", "empty remarks": "#\n",
	} {
		s := strings.Join(l, between)
		parsed(t, what, s, x)
		for _, around := range []string{" ", "\n\n", between, "# wharfage\n", "\n#\n"} {
			parsed(t, what, around+s+around, x)
			parsed(t, what, around+s, x)
			parsed(t, what, s+around, x)
		}
		parsed(t, what, s+"# the text's end ends it", x)
		parsed(t, what, s+" #", x)
	}
	// Where a word ends another one doesn't begin.
	refused(t, "no blank", strings.Join(l, ""), 0, api.ErrWord)
	refused(t, "all is a remark", "#"+joined(l), len(joined(l))+1, api.ErrWord)
	refused(t, "end is in a remark", strings.Join(l[:len(l)-1], " ")+" # end", len(strings.Join(l[:len(l)-1], " "))+6, api.ErrWord)
}

// wrongNumbers: words that are no numbers from 0 to MaxWhole.
var wrongNumbers = []string{
	"x", "-1", "-0", "+1", "00", "07", "1.5", "1.", "1e3", "0x1", "1_0", "1,", "a1", "1a", "end", "cost", "-", "'1'",
	"1000000000000001", "9223372036854775807", "9223372036854775808", "18446744073709551616", "99999999999999999999999999",
}

// wrongWords: words that are none of those that must stand somewhere.
var wrongWords = []string{"x", "7", "0", "Wharfage", "WHARFAGE", "wharfages", "wharfag", "truck", "bike", "satellite", "customer", "costs", "Cost", "times", "ends", "en", "end."}

// TestEachWord: each word there is, cut off, left out, twice, and exchanged for what may not stand there.
func TestEachWord(t *testing.T) {
	for _, c := range [][2]int{{1, 1}, {2, 3}} {
		x := of(c[0], c[1])
		l := told(x)
		for i, text := range l {
			wrong, none := wrongNumbers, api.ErrForm
			if !digits.MatchString(text) {
				wrong, none = wrongWords, api.ErrWord
			}
			s := joined(l[:i])
			refused(t, "cut off", s, len(s), none)
			refused(t, "cut off", s+"\n\n", len(s)+2, none)
			refused(t, "cut off", s+" # "+text, len(s)+3+len(text), none)
			for _, other := range wrong {
				refused(t, "exchanged", joined(with(l, i, other)), at(l, i), none)
			}
			asWords(t, "left out", joined(slices.Delete(slices.Clone(l), i, i+1)))
			asWords(t, "twice", joined(slices.Insert(slices.Clone(l), i, text)))
			for k := range l {
				asWords(t, "another one", joined(with(l, i, l[k])))
			}
		}
	}
}

// TestWordsInOrder: each word in the place of each other one.
func TestWordsInOrder(t *testing.T) {
	words := []string{"wharfage", "trucks", "bikes", "satellites", "customers", "cost", "time", "end"}
	l := told(of(1, 2))
	for _, one := range words {
		for _, other := range words {
			i := slices.Index(l, one)
			if one == other {
				parsed(t, one, joined(with(l, i, other)), of(1, 2))
			} else {
				refused(t, one, joined(with(l, i, other)), at(l, i), api.ErrWord)
			}
		}
		if one != "wharfage" {
			refused(t, "alone", one, 0, api.ErrWord)
		}
	}
}

// number is a place for a number in the words of of(2, 3): which numbers may be there, where all else is as it is.
type number struct {
	name      string
	i         int
	low, high int64
}

// numbers: all of them but how many satellites and customers there are.
func numbers() []number {
	l := []number{{"End", 1, 0, great}, {"trucks", 3, 1, fleet}, {"trucks' Room", 4, 0, great}, {"bikes", 6, 1, fleet}, {"bikes' Room", 7, 0, great}}
	for s := range 2 {
		l = append(l, number{"a satellite's Room", 10 + 2*s, 0, great}, number{"Hold", 11 + 2*s, 0, great})
	}
	for c := range 3 {
		i, open, last := 16+4*c, int64(4000+c), int64(5000+c)
		l = append(l, number{"Load", i, 1, great}, number{"Open", i + 1, 0, last}, number{"Close", i + 2, open, great}, number{"Stay", i + 3, 0, great})
	}
	for m, name := range []string{"Cost", "Time"} {
		for i := range 36 {
			high := int64(great)
			if i%7 == 0 {
				high = 0
			}
			l = append(l, number{name, 29 + 37*m + i, 0, high})
		}
	}
	return l
}

// TestEdges: each number, up to its edges and beyond.
func TestEdges(t *testing.T) {
	l := told(of(2, 3))
	if len(numbers())+2+8 != len(l) {
		t.Fatalf("of %d words %d are numbers", len(l), len(numbers()))
	}
	for _, a := range numbers() {
		for _, n := range []int64{0, 1, 2, 59, 60, 61, a.low, a.low + 1, a.high - 1, a.high, great - 1, great} {
			if n >= a.low && n <= a.high {
				s := joined(with(l, a.i, strconv.FormatInt(n, 10)))
				if asWords(t, a.name, s) != api.OK {
					t.Errorf("%s may not be %d", a.name, n)
				}
				if x, _, _ := parse.Parse(s); !slices.Equal(told(x), with(l, a.i, strconv.FormatInt(n, 10))) {
					t.Errorf("%s %d isn't read as it was told", a.name, n)
				}
			}
		}
		for _, n := range []int64{a.low - 1, a.high + 1, great + 1, 1 << 32, 1<<32 + 1, whole - 1, whole} {
			place := at(l, a.i)
			switch {
			case n < 0:
				continue
			case a.name == "Open" && n <= great:
				// It is Close that may not be, then.
				place = at(with(l, a.i, strconv.FormatInt(n, 10)), a.i+1)
			}
			refused(t, a.name, joined(with(l, a.i, strconv.FormatInt(n, 10))), place, api.ErrRange)
		}
		refused(t, a.name, joined(with(l, a.i, "-1")), at(l, a.i), api.ErrForm)
		refused(t, a.name, joined(with(l, a.i, strconv.Itoa(whole+1))), at(l, a.i), api.ErrForm)
	}
}

// TestCounts: how many satellites and customers may be, whatever stands behind.
func TestCounts(t *testing.T) {
	ahead := "wharfage 9 trucks 1 1 bikes 1 1 satellites "
	for _, n := range []int{0, 13, 14, 48, 60, 61, 1 << 32, 1<<32 + 1, whole} {
		s := ahead + strconv.Itoa(n)
		refused(t, "satellites", s, len(ahead), api.ErrRange)
		refused(t, "satellites", s+strings.Repeat(" 1", 2*min(n, 1000))+" customers 1", len(ahead), api.ErrRange)
	}
	for n := 1; n <= sats; n++ {
		s := ahead + strconv.Itoa(n) + strings.Repeat(" 0", 2*n)
		refused(t, "satellites", s, len(s), api.ErrWord)
		refused(t, "satellites", s+" 0", len(s)+1, api.ErrWord)
		refused(t, "satellites", s[:len(s)-2], len(s)-2, api.ErrForm)
	}
	ahead += "1 5 5 customers "
	for _, n := range []int{0, 49, 50, 60, 61, 1 << 32, 1<<32 + 1, whole} {
		s := ahead + strconv.Itoa(n)
		refused(t, "customers", s, len(ahead), api.ErrRange)
		refused(t, "customers", s+strings.Repeat(" 1", 4*min(n, 1000))+" cost", len(ahead), api.ErrRange)
	}
	for n := 1; n <= customers; n++ {
		s := ahead + strconv.Itoa(n) + strings.Repeat(" 1", 4*n)
		refused(t, "customers", s, len(s), api.ErrWord)
		refused(t, "customers", s+" 1", len(s)+1, api.ErrWord)
		refused(t, "customers", s[:len(s)-2], len(s)-2, api.ErrForm)
		rows := s + " cost" + strings.Repeat(" 0", (2+n)*(2+n))
		refused(t, "rows", rows, len(rows), api.ErrWord)
		refused(t, "rows", rows+" 0", len(rows)+1, api.ErrWord)
		refused(t, "rows", rows[:len(rows)-2], len(rows)-2, api.ErrForm)
	}
}

// TestMatrices: another number of satellites or customers than that of the rows.
func TestMatrices(t *testing.T) {
	for _, c := range [][2]int{{1, 3}, {3, 3}, {2, 2}, {2, 4}, {3, 4}, {1, 2}} {
		x := of(2, 3)
		y := of(c[0], c[1])
		x.Cost = y.Cost
		if asWords(t, "Cost", joined(told(x))) == api.OK {
			t.Errorf("Cost of %v may be", c)
		}
		x.Cost, x.Time = of(2, 3).Cost, y.Time
		if asWords(t, "Time", joined(told(x))) == api.OK {
			t.Errorf("Time of %v may be", c)
		}
	}
	// As many numbers of each matrix, but in the other order: then they are told of other nodes.
	x, y := of(2, 3), of(2, 3)
	y.Cost, y.Time = x.Time, x.Cost
	parsed(t, "matrices exchanged", joined(told(y)), y)
	for _, rows := range [][][]int64{x.Cost, x.Time} {
		before := rows[4][5]
		rows[4][5] = 0
		parsed(t, "0 between two nodes", joined(told(x)), x)
		rows[4][5] = before
	}
}

// TestWindows: Close is from Open on, wherever both are.
func TestWindows(t *testing.T) {
	for _, c := range []struct {
		open, last int64
		code       api.Errno
	}{
		{0, 0, api.OK}, {0, great, api.OK}, {great, great, api.OK}, {5, 5, api.OK}, {5, 6, api.OK}, {99, 100, api.OK},
		{6, 5, api.ErrRange}, {1, 0, api.ErrRange}, {100, 99, api.ErrRange}, {great, great - 1, api.ErrRange}, {great, 0, api.ErrRange}, {great, great + 1, api.ErrRange},
	} {
		for i := range 3 {
			x := of(2, 3)
			x.Customers[i].Open, x.Customers[i].Close = c.open, c.last
			l := told(x)
			if c.code == api.OK {
				parsed(t, "a window", joined(l), x)
			} else {
				refused(t, "a window", joined(l), at(l, 18+4*i), c.code)
			}
		}
	}
}

// TestRest: words behind end.
func TestRest(t *testing.T) {
	s := joined(told(of(1, 2)))
	for _, rest := range []string{"end", "wharfage", "0", "x", "-1", "end end end", s, "~", "7 # end"} {
		refused(t, "behind end", s+" "+rest, len(s)+1, api.ErrRest)
		refused(t, "behind end", s+"\n# end\n\n "+rest+"\n", len(s)+9, api.ErrRest)
	}
	refused(t, "a longer end", s+"end", len(s)-3, api.ErrWord)
	// An error ahead of end is told, whatever stands behind it.
	refused(t, "a wrong number, and words behind end", "wharfage x"+s[len("wharfage 900"):]+" end", 9, api.ErrForm)
}

// TestBytes: a byte that may not stand is told ahead of all else, wherever it is.
func TestBytes(t *testing.T) {
	s := joined(told(of(1, 2)))
	for b := range 256 {
		one := string([]byte{byte(b)})
		if b == '\n' || b >= 32 && b <= 126 {
			asWords(t, "a byte", s+one)
			asWords(t, "a byte", one+s)
			asWords(t, "a byte", s[:20]+one+s[20:])
			continue
		}
		refused(t, "a byte", one+s, 0, api.ErrForm)
		refused(t, "a byte", s+one, len(s), api.ErrForm)
		refused(t, "a byte", s+" # "+one, len(s)+3, api.ErrForm)
		refused(t, "a byte", "wrong # "+one+s, 8, api.ErrForm)
		refused(t, "a byte", s+" rest "+one, len(s)+6, api.ErrForm)
		refused(t, "a byte", "x"+one+"y\t", 1, api.ErrForm)
	}
	refused(t, "tabs", strings.ReplaceAll(s, " ", "\t"), 8, api.ErrForm)
	refused(t, "returns", strings.ReplaceAll(s, " ", "\r\n"), 8, api.ErrForm)
	refused(t, "digits of another kind", strings.Replace(s, "900", "\u0669", 1), 9, api.ErrForm)
}

func TestSize(t *testing.T) {
	x := of(1, 2)
	s := joined(told(x))
	room := api.MaxText - len(s)
	for _, fill := range []string{" ", "\n", "#"} {
		parsed(t, "as long as may be", s+strings.Repeat(fill, room), x)
		refused(t, "longer", s+strings.Repeat(fill, room+1), 0, api.ErrSize)
	}
	parsed(t, "as long as may be", strings.Repeat(" ", room)+s, x)
	refused(t, "longer", strings.Repeat("\n", room+1)+s, 0, api.ErrSize)
	refused(t, "longer, a wrong byte, a wrong word", "x\t"+strings.Repeat(" ", api.MaxText), 0, api.ErrSize)
	refused(t, "as long as may be, a wrong word", strings.Repeat(" ", api.MaxText-1)+"x", api.MaxText-1, api.ErrWord)
	refused(t, "as long as may be, no word", strings.Repeat(" ", api.MaxText), api.MaxText, api.ErrWord)
	refused(t, "a long word", strings.Repeat("9", api.MaxText), 0, api.ErrWord)
	refused(t, "a long number", "wharfage "+strings.Repeat("9", api.MaxText-9), 9, api.ErrForm)
	refused(t, "longer by far", strings.Repeat(s, 1000), 0, api.ErrSize)
}

// TestLittle: texts with hardly anything in them.
func TestLittle(t *testing.T) {
	for _, s := range []string{"", " ", "\n", "#", "# wharfage 5", " \n\n #\n"} {
		refused(t, "no word", s, len(s), api.ErrWord)
	}
	refused(t, "no number", "wharfage", 8, api.ErrForm)
	refused(t, "no number", "wharfage\n\n", 10, api.ErrForm)
	refused(t, "no number", "wharfage trucks", 9, api.ErrForm)
	refused(t, "no trucks", "wharfage 5", 10, api.ErrWord)
	refused(t, "another word", "\n end", 2, api.ErrWord)
	refused(t, "a number", "5", 0, api.ErrWord)
}

// atRandom: any instance that may be: numbers of all sizes, many of them at their edges.
func atRandom(r *rand.Rand) inst.Instance {
	between := func(low, high int64) int64 {
		switch r.Intn(6) {
		case 0:
			return low
		case 1:
			return high
		case 2:
			return low + r.Int63n(min(high-low, 9)+1)
		}
		return low + r.Int63n(high-low+1)
	}
	plain := func() int64 { return between(0, great) }
	x := inst.Instance{
		End:    plain(),
		Trucks: inst.Fleet{Many: int(between(1, fleet)), Room: plain()},
		Bikes:  inst.Fleet{Many: int(between(1, fleet)), Room: plain()},
	}
	for range between(1, sats) {
		x.Sats = append(x.Sats, inst.Sat{Room: plain(), Hold: plain()})
	}
	for range between(1, customers) {
		open := plain()
		x.Customers = append(x.Customers, inst.Customer{Load: between(1, great), Open: open, Close: between(open, great), Stay: plain()})
	}
	for _, rows := range []*[][]int64{&x.Cost, &x.Time} {
		*rows = square(x.Nodes(), 0)
		for i := range *rows {
			for k := range *rows {
				if i != k {
					(*rows)[i][k] = plain()
				}
			}
		}
	}
	return x
}

// TestTextsOfAll: P12.2: each instance of which Check has no error has a text, and is read from it.
func TestTextsOfAll(t *testing.T) {
	r := rand.New(rand.NewSource(1))
	for range 300 {
		x := atRandom(r)
		if e := x.Check(); e != api.OK {
			t.Fatalf("Check is %d", e)
		}
		parsed(t, "at random", joined(told(x)), x)
	}
	// The one with the longest text.
	x := of(sats, customers)
	x.End, x.Trucks, x.Bikes = great, inst.Fleet{Many: fleet, Room: great}, inst.Fleet{Many: fleet, Room: great}
	for i := range x.Sats {
		x.Sats[i] = inst.Sat{Room: great, Hold: great}
	}
	for i := range x.Customers {
		x.Customers[i] = inst.Customer{Load: great, Open: great, Close: great, Stay: great}
	}
	for _, rows := range [][][]int64{x.Cost, x.Time} {
		for i := range rows {
			for k := range rows {
				if i != k {
					rows[i][k] = great
				}
			}
		}
	}
	if s := joined(told(x)); len(s) > api.MaxText || len(s) < 80000 {
		t.Errorf("the longest text has %d bytes", len(s))
	} else {
		parsed(t, "the longest text", s, x)
	}
}

// TestChanged: texts, changed at random: Parse answers what the words do, and what it reads may be.
func TestChanged(t *testing.T) {
	r := rand.New(rand.NewSource(2))
	others := slices.Concat(wrongNumbers, wrongWords, []string{
		"0", "1", "2", "3", "12", "13", "48", "49", "60", "61", "1000000000", "1000000001", "1000000000000000",
		"wharfage", "trucks", "bikes", "satellites", "customers", "cost", "time", "end", "#", "# x\n", "\n", "\t", "a#b", "",
	})
	seen := map[api.Errno]int{}
	for range 8000 {
		x := of(1+r.Intn(2), 1+r.Intn(3))
		l := told(x)
		for range r.Intn(3) {
			i, k := r.Intn(len(l)), r.Intn(len(l))
			if r.Intn(2) == 0 {
				i = r.Intn(min(30, len(l)))
			}
			switch r.Intn(6) {
			case 0:
				l = slices.Delete(l, i, i+1)
			case 1:
				l = slices.Insert(l, i, others[r.Intn(len(others))])
			case 2:
				l[i], l[k] = l[k], l[i]
			case 3:
				l[i] = l[k]
			case 4:
				l = append(l, others[r.Intn(len(others))])
			default:
				l[i] = others[r.Intn(len(others))]
			}
		}
		if r.Intn(20) == 0 {
			l = l[:r.Intn(len(l)+1)]
		}
		s := joined(l)
		if r.Intn(20) == 0 {
			s = s[:r.Intn(len(s)+1)]
		}
		seen[asWords(t, "changed", s)]++
	}
	for _, code := range []api.Errno{api.OK, api.ErrWord, api.ErrForm, api.ErrRange, api.ErrRest} {
		if seen[code] < 100 {
			t.Errorf("%d came up %d times", code, seen[code])
		}
	}
}

// TestWild: P1: any bytes at all.
func TestWild(t *testing.T) {
	r := rand.New(rand.NewSource(3))
	s := []byte(joined(told(of(2, 2))))
	for range 3000 {
		b := slices.Clone(s)
		for range 1 + r.Intn(3) {
			b[r.Intn(len(b))] = byte(r.Intn(256))
		}
		asWords(t, "a few bytes", string(b))
		b = b[:r.Intn(60)]
		r.Read(b)
		asWords(t, "any bytes", string(b))
		for i := range b {
			b[i] = "wharfage 0123456789 trucks\n#end"[r.Intn(31)]
		}
		asWords(t, "any words", string(b))
	}
}

// lists: all of an instance's numbers that stand in lists.
func lists(x *inst.Instance) []*int64 {
	var l []*int64
	for i := range x.Sats {
		l = append(l, &x.Sats[i].Room, &x.Sats[i].Hold)
	}
	for i := range x.Customers {
		c := &x.Customers[i]
		l = append(l, &c.Load, &c.Open, &c.Close, &c.Stay)
	}
	for _, rows := range [][][]int64{x.Cost, x.Time} {
		for i := range rows {
			for k := range rows[i] {
				l = append(l, &rows[i][k])
			}
		}
	}
	return l
}

// TestNewMemory: R5: what is read shares nothing with what is read again, and no two of its lists share anything.
func TestNewMemory(t *testing.T) {
	for _, c := range [][2]int{{1, 1}, {2, 3}, {12, 48}} {
		s := joined(told(of(c[0], c[1])))
		x, _, _ := parse.Parse(s)
		y, _, _ := parse.Parse(s)
		places := map[*int64]bool{}
		for _, at := range append(lists(&x), lists(&y)...) {
			if places[at] {
				t.Fatalf("of %v a number stands in two places", c)
			}
			places[at] = true
		}
		for _, rows := range []*[][]int64{&x.Cost, &x.Time} {
			for i, row := range *rows {
				(*rows)[i] = append(row, -7)
			}
		}
		x.Sats, x.Customers = append(x.Sats, inst.Sat{Room: -7}), append(x.Customers, inst.Customer{Load: -7})
		for _, at := range lists(&x) {
			*at = -7
		}
		if !inst.Same(y, of(c[0], c[1])) {
			t.Errorf("of %v what is read again is changed by what is read", c)
		}
	}
}

// TestRowsApart: R5: what is laid behind a list of what is read isn't to be seen in another one.
func TestRowsApart(t *testing.T) {
	x, _, _ := parse.Parse(joined(told(of(2, 3))))
	for _, rows := range [][][]int64{x.Cost, x.Time} {
		for _, row := range rows {
			for i := range row[:cap(row)][len(row):] {
				row[:cap(row)][len(row)+i] = -7
			}
		}
	}
	for i := range x.Cost[:cap(x.Cost)][len(x.Cost):] {
		x.Cost[:cap(x.Cost)][len(x.Cost)+i] = nil
	}
	if !inst.Same(x, of(2, 3)) {
		t.Errorf("then it is %v", x)
	}
}

// TestSameAgain: R6: what was read ahead of it doesn't matter.
func TestSameAgain(t *testing.T) {
	x, y := of(2, 3), of(1, 2)
	s, other := joined(told(x)), joined(told(y))
	for range 3 {
		parsed(t, "one", s, x)
		refused(t, "most of it", s[:len(s)-4], len(s)-4, api.ErrWord)
		parsed(t, "another one", other, y)
		refused(t, "none", "wharfage 5 trucks 0 9", 18, api.ErrRange)
	}
}
