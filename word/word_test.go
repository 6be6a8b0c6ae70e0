package word_test

import (
	"errors"
	"math"
	"math/rand"
	"slices"
	"strconv"
	"strings"
	"testing"
	"unsafe"

	"wharfage/api"
	"wharfage/word"
)

// halves: a text's words, told apart from the place of each byte in its line, line by line.
func halves(s string) []word.Word {
	var l []word.Word
	from := 0
	for _, line := range strings.SplitAfter(s, "\n") {
		told, _, _ := strings.Cut(line, "#")
		last := -2
		for i, b := range []byte(told) {
			if b == ' ' || b == '\n' {
				continue
			}
			if last != i-1 {
				l = append(l, word.Word{At: from + i})
			}
			l[len(l)-1].Text += string(rune(b))
			last = i
		}
		from += len(line)
	}
	return l
}

// split: Split must tell these words, and no error.
func split(t *testing.T, s string, want []word.Word) {
	t.Helper()
	l, at, code := word.Split(s)
	if !slices.Equal(l, want) || at != 0 || code != api.OK {
		t.Errorf("Split(%.60q) is %v, %d, %d, not %v", s, l, at, code, want)
	}
}

// refused: Split must tell that error, at that place, and no words; so must Read, and do nothing.
func refused(t *testing.T, s string, place int, err api.Errno) {
	t.Helper()
	if l, at, code := word.Split(s); len(l) != 0 || at != place || code != err {
		t.Errorf("Split(%.60q) is %v, %d, %d, not none, %d, %d", s, l, at, code, place, err)
	}
	read(t, s, func(*word.Reader) { t.Errorf("Read(%.60q) reads", s) }, place, err)
	read(t, s, nil, place, err)
}

// read: Read must answer that.
func read(t *testing.T, s string, do func(*word.Reader), place int, err api.Errno) {
	t.Helper()
	if at, code := word.Read(s, do); at != place || code != err {
		t.Errorf("Read(%.60q) is %d, %d, not %d, %d", s, at, code, place, err)
	}
}

// thrown: what a call throws; nil: nothing.
func thrown(call func()) (x any) {
	defer func() { x = recover() }()
	call()
	return nil
}

func TestSplitTold(t *testing.T) {
	for s, want := range map[string][]word.Word{
		"":                nil,
		" ":               nil,
		"\n":              nil,
		" \n\n  \n":       nil,
		"#":               nil,
		"#\n":             nil,
		"# a b":           nil,
		" # a\n# b # c\n": nil,
		"##\n##":          nil,
		"a":               {{"a", 0}},
		" a":              {{"a", 1}},
		"a ":              {{"a", 0}},
		"\na\n":           {{"a", 1}},
		"a 7 # b":         {{"a", 0}, {"7", 2}},
		"ab  cd":          {{"ab", 0}, {"cd", 4}},
		"ab\ncd":          {{"ab", 0}, {"cd", 3}},
		"a#b":             {{"a", 0}},
		"a#b\nc":          {{"a", 0}, {"c", 4}},
		"a#b#c d\ne":      {{"a", 0}, {"e", 8}},
		"#a\nb":           {{"b", 3}},
		"#\nb":            {{"b", 2}},
		"a # b\n c#":      {{"a", 0}, {"c", 7}},
		"a\n\n#\n\nb":     {{"a", 0}, {"b", 6}},
		"a a a":           {{"a", 0}, {"a", 2}, {"a", 4}},
		"-1 +2":           {{"-1", 0}, {"+2", 3}},
		"a,b;c \"d e\"":   {{"a,b;c", 0}, {"\"d", 6}, {"e\"", 9}},
		"\\n //x /* y */": {{"\\n", 0}, {"//x", 3}, {"/*", 7}, {"y", 10}, {"*/", 12}},
		"!~ ~!":           {{"!~", 0}, {"~!", 3}},
	} {
		split(t, s, want)
		if l := halves(s); !slices.Equal(l, want) {
			t.Errorf("halves(%q) is %v, not %v", s, l, want)
		}
	}
}

// TestSplitBytes: each byte there is, by itself, in a word, and in a remark.
func TestSplitBytes(t *testing.T) {
	for b := range 256 {
		one := string([]byte{byte(b)})
		switch {
		case b != '\n' && b < 32 || b > 126:
			refused(t, one, 0, api.ErrForm)
			refused(t, "ab"+one+"cd", 2, api.ErrForm)
			refused(t, "a #"+one, 3, api.ErrForm)
			refused(t, "a\n "+one+"\nb", 3, api.ErrForm)
		case b == '\n':
			split(t, one, nil)
			split(t, "ab"+one+"cd", []word.Word{{"ab", 0}, {"cd", 3}})
			split(t, "a #"+one+"b", []word.Word{{"a", 0}, {"b", 4}})
		case b == ' ':
			split(t, one, nil)
			split(t, "ab"+one+"cd", []word.Word{{"ab", 0}, {"cd", 3}})
			split(t, "a #"+one+"b", []word.Word{{"a", 0}})
		case b == '#':
			split(t, one, nil)
			split(t, "ab"+one+"cd", []word.Word{{"ab", 0}})
			split(t, "a #"+one+"b", []word.Word{{"a", 0}})
		default:
			split(t, one, []word.Word{{one, 0}})
			split(t, "ab"+one+"cd", []word.Word{{"ab" + one + "cd", 0}})
			split(t, "a #"+one+"b", []word.Word{{"a", 0}})
		}
	}
}

// TestSplitFirst: of several bytes that may not stand it is the first that is told.
func TestSplitFirst(t *testing.T) {
	refused(t, "a\tb", 1, api.ErrForm)
	refused(t, "a\tb\tc\x00", 1, api.ErrForm)
	refused(t, "a b # c\r\n\x7f", 7, api.ErrForm)
	refused(t, "a b\x80\xff", 3, api.ErrForm)
	refused(t, "a\u00e4b\tc", 1, api.ErrForm)
	refused(t, "\ufeffa", 0, api.ErrForm)
	refused(t, "a \u2028", 2, api.ErrForm)
	refused(t, strings.Repeat("ab\n", 1000)+"\v\f", 3000, api.ErrForm)
}

func TestSplitSize(t *testing.T) {
	most := strings.Repeat("x", api.MaxText)
	split(t, most, []word.Word{{most, 0}})
	split(t, strings.Repeat(" ", api.MaxText), nil)
	split(t, "#"+strings.Repeat("#", api.MaxText-1), nil)
	split(t, strings.Repeat("\n", api.MaxText-1)+"y", []word.Word{{"y", api.MaxText - 1}})
	refused(t, most[1:]+"\t", api.MaxText-1, api.ErrForm)
	refused(t, most+"x", 0, api.ErrSize)
	refused(t, most+" ", 0, api.ErrSize)
	refused(t, strings.Repeat("\n", api.MaxText+1), 0, api.ErrSize)
	// The size is looked at ahead of the bytes.
	refused(t, "\t"+most, 0, api.ErrSize)
	refused(t, most+"\t", 0, api.ErrSize)
	refused(t, "ab\x00"+most+most, 0, api.ErrSize)
	refused(t, strings.Repeat("\xff", 3*api.MaxText), 0, api.ErrSize)
}

// TestSplitMany: as many words as there can be.
func TestSplitMany(t *testing.T) {
	l, at, code := word.Split(strings.Repeat("7\n", api.MaxText/2))
	if len(l) != api.MaxText/2 || at != 0 || code != api.OK {
		t.Fatalf("Split is %d words, %d, %d", len(l), at, code)
	}
	for i, w := range l {
		if w != (word.Word{Text: "7", At: 2 * i}) {
			t.Fatalf("word %d is %v", i, w)
		}
	}
}

// random: a text of these bytes.
func random(r *rand.Rand, bytes string) string {
	b := make([]byte, r.Intn(40))
	for i := range b {
		b[i] = bytes[r.Intn(len(bytes))]
	}
	return string(b)
}

func TestSplitAtRandom(t *testing.T) {
	r := rand.New(rand.NewSource(1))
	for i := range 20000 {
		s := random(r, "ab7~! \n \n#")
		split(t, s, halves(s))
		if i%4 == 0 {
			// What stands behind the byte that may not stand doesn't matter.
			refused(t, s+"\t"+random(r, "a \n#\t\r"), len(s), api.ErrForm)
		}
	}
}

// TestSplitNewMemory: R5: a text's words don't change where its memory does.
func TestSplitNewMemory(t *testing.T) {
	b := []byte("one two # three\nfour")
	s := unsafe.String(&b[0], len(b))
	l, _, _ := word.Split(s)
	again, _, _ := word.Split(s)
	for i := range b {
		b[i] = 'x'
	}
	want := []word.Word{{"one", 0}, {"two", 4}, {"four", 16}}
	if !slices.Equal(l, want) {
		t.Errorf("then the words are %v", l)
	}
	l[0] = word.Word{Text: "other", At: 9}
	if !slices.Equal(again, want) {
		t.Errorf("then the other words are %v", again)
	}
}

func TestReadTold(t *testing.T) {
	told := func(r *word.Reader) {
		r.Must("a")
		r.Number(0, 5)
	}
	read(t, "a 7 # b", told, 2, api.ErrRange)
	read(t, "a 5 # b", told, 0, api.OK)
	read(t, "a 5 b", told, 4, api.ErrRest)
	read(t, "a x b", told, 2, api.ErrForm)
	read(t, "a", told, 1, api.ErrForm)
	read(t, "", told, 0, api.ErrWord)
	read(t, " # a\n", told, 5, api.ErrWord)
	read(t, "\n b 7", told, 2, api.ErrWord)
	read(t, "a\n 7 x", told, 3, api.ErrRange)
}

// TestReadNil: nothing is done, and a word is one that is left.
func TestReadNil(t *testing.T) {
	read(t, "", nil, 0, api.OK)
	read(t, " \n# a", nil, 0, api.OK)
	read(t, "a", nil, 0, api.ErrRest)
	read(t, "# a\n  b c", nil, 6, api.ErrRest)
}

// TestReadOnce: do is called once, and with a reader ahead of the first word.
func TestReadOnce(t *testing.T) {
	for s, first := range map[string]int{"": 0, "a": 0, "\n a b": 2, "#a": 2, "#a\nb": 3} {
		calls := 0
		word.Read(s, func(r *word.Reader) {
			calls++
			if r == nil || r.Place() != first || r.More() != (first < len(s)) {
				t.Errorf("Read(%q) begins elsewhere", s)
			}
		})
		if calls != 1 {
			t.Errorf("Read(%q) calls %d times", s, calls)
		}
	}
}

func TestReadRest(t *testing.T) {
	is := func(text string) func(*word.Reader) {
		return func(r *word.Reader) { r.Is(text) }
	}
	read(t, "a", is("a"), 0, api.OK)
	read(t, "a", is("b"), 0, api.ErrRest)
	read(t, " a  b c", is("a"), 4, api.ErrRest)
	read(t, "a # b\n", is("a"), 0, api.OK)
	read(t, "a # b\n#c\nd", is("a"), 9, api.ErrRest)
	read(t, "a a", func(r *word.Reader) { r.Is("a"); r.Must("a") }, 0, api.OK)
}

func TestPlaceAndMore(t *testing.T) {
	s := " a bc#\n7  "
	read(t, s, func(r *word.Reader) {
		for _, c := range []struct {
			at   int
			text string
		}{{1, "a"}, {3, "bc"}, {7, "7"}} {
			// Asked as often as one likes, the reader stays where it is.
			for range 3 {
				if at, more := r.Place(), r.More(); at != c.at || !more {
					t.Errorf("ahead of %q Place is %d, More %v", c.text, at, more)
				}
			}
			if !r.Is(c.text) {
				t.Errorf("it isn't %q", c.text)
			}
		}
		for range 3 {
			if at, more := r.Place(), r.More(); at != len(s) || more {
				t.Errorf("at the end Place is %d, More %v", at, more)
			}
		}
	}, 0, api.OK)
}

func TestIs(t *testing.T) {
	read(t, "ab 07 ab", func(r *word.Reader) {
		for _, text := range []string{"", "a", "b", "abc", "AB", "ab ", " ab", "ab 07", "07", "#", "\n", "ab\x00"} {
			if r.Is(text) || r.Place() != 0 {
				t.Errorf("it is %q", text)
			}
		}
		if !r.Is("ab") || r.Place() != 3 {
			t.Error("it isn't ab")
		}
		if r.Is("ab") || r.Is("7") || !r.Is("07") || r.Place() != 6 {
			t.Error("it isn't 07")
		}
		if !r.Is("ab") {
			t.Error("it isn't ab again")
		}
		for _, text := range []string{"", "ab", "07", " ", "#"} {
			if r.Is(text) || r.More() {
				t.Errorf("at the end it is %q", text)
			}
		}
	}, 0, api.OK)
}

func TestMust(t *testing.T) {
	for _, c := range []struct {
		s, text string
		at      int
		code    api.Errno
	}{
		{"a", "a", 0, api.OK},
		{" a#b", "a", 0, api.OK},
		{"a b", "a", 2, api.ErrRest},
		{"a", "b", 0, api.ErrWord},
		{" a", "A", 1, api.ErrWord},
		{" a", "", 1, api.ErrWord},
		{" a", " a", 1, api.ErrWord},
		{"ab", "a", 0, api.ErrWord},
		{"a", "ab", 0, api.ErrWord},
		{"a b", "a b", 0, api.ErrWord},
		{"", "", 0, api.ErrWord},
		{"  ", "", 2, api.ErrWord},
		{" #a\n ", "a", 5, api.ErrWord},
		{"#", "#", 1, api.ErrWord},
		{"7", "07", 0, api.ErrWord},
	} {
		after := false
		read(t, c.s, func(r *word.Reader) {
			r.Must(c.text)
			after = true
		}, c.at, c.code)
		if after != (c.code != api.ErrWord) {
			t.Errorf("Must(%q) of %q: going on is %v", c.text, c.s, after)
		}
	}
}

func TestNumber(t *testing.T) {
	const least, most = math.MinInt64, math.MaxInt64
	for _, c := range []struct {
		s        string
		from, to int64
		want     int64
		at       int
		code     api.Errno
	}{
		{"0", 0, 0, 0, 0, api.OK},
		{"7", 7, 7, 7, 0, api.OK},
		{" 7 # 8", 0, 9, 7, 0, api.OK},
		{"7 8", 0, 9, 7, 2, api.ErrRest},
		{"0", least, most, 0, 0, api.OK},
		{"1000000000000000", least, most, api.MaxWhole, 0, api.OK},
		{"1000000000000000", api.MaxWhole, api.MaxWhole, api.MaxWhole, 0, api.OK},
		{"1000000000", 1, api.MaxNum, api.MaxNum, 0, api.OK},
		{"4294967297", 0, api.MaxWhole, 1<<32 + 1, 0, api.OK},
		// Outside, by one and by many.
		{" 1000000001", 1, api.MaxNum, 0, 1, api.ErrRange},
		{" 0", 1, api.MaxNum, 0, 1, api.ErrRange},
		{"6", 7, 7, 0, 0, api.ErrRange},
		{"8", 7, 7, 0, 0, api.ErrRange},
		{"5", 7, 3, 0, 0, api.ErrRange},
		{"7", 7, 3, 0, 0, api.ErrRange},
		{"3", 7, 3, 0, 0, api.ErrRange},
		{"0", least, -1, 0, 0, api.ErrRange},
		{"0", most, least, 0, 0, api.ErrRange},
		{"1000000000000000", most, most, 0, 0, api.ErrRange},
		{"4294967297", 0, 9, 0, 0, api.ErrRange},
		// None, whatever the range.
		{"", 0, 9, 0, 0, api.ErrForm},
		{"", 9, 0, 0, 0, api.ErrForm},
		{" \n#7\n", least, most, 0, 5, api.ErrForm},
		{" a", 0, 9, 0, 1, api.ErrForm},
		{"a", 9, 0, 0, 0, api.ErrForm},
		{"07", 0, 9, 0, 0, api.ErrForm},
		{"00", 0, 9, 0, 0, api.ErrForm},
		{"-1", least, most, 0, 0, api.ErrForm},
		{"-0", least, most, 0, 0, api.ErrForm},
		{"+1", 0, 9, 0, 0, api.ErrForm},
		{"1.0", 0, 9, 0, 0, api.ErrForm},
		{"1,", 0, 9, 0, 0, api.ErrForm},
		{"0x1", 0, 9, 0, 0, api.ErrForm},
		{"1_0", 0, 99, 0, 0, api.ErrForm},
		{"1000000000000001", least, most, 0, 0, api.ErrForm},
		{"9223372036854775807", 0, most, 0, 0, api.ErrForm},
		{"18446744073709551617", 0, 9, 0, 0, api.ErrForm},
		{strings.Repeat("9", api.MaxText), least, most, 0, 0, api.ErrForm},
	} {
		n, after := int64(0), false
		read(t, c.s, func(r *word.Reader) {
			n = r.Number(c.from, c.to)
			after = true
		}, c.at, c.code)
		if n != c.want || after != (c.code == api.OK || c.code == api.ErrRest) {
			t.Errorf("Number(%d, %d) of %.60q is %d, going on is %v", c.from, c.to, c.s, n, after)
		}
	}
}

// TestNumberGoesOver: a number that holds is gone over.
func TestNumberGoesOver(t *testing.T) {
	read(t, "3 x 40", func(r *word.Reader) {
		if n := r.Number(0, 9); n != 3 || r.Place() != 2 || !r.More() {
			t.Errorf("Number is %d, then Place %d", n, r.Place())
		}
		r.Must("x")
		if n := r.Number(40, 40); n != 40 || r.Place() != 6 || r.More() {
			t.Errorf("Number is %d, then Place %d", n, r.Place())
		}
	}, 0, api.OK)
}

// TestStopDeep: do goes no further, however deep the reader is within it; what it deferred is done.
func TestStopDeep(t *testing.T) {
	deferred := 0
	var deep func(r *word.Reader, n int)
	deep = func(r *word.Reader, n int) {
		defer func() { deferred++ }()
		if n > 0 {
			deep(r, n-1)
		}
		r.Must("a")
		t.Error("it goes on")
	}
	read(t, " b", func(r *word.Reader) { deep(r, 40) }, 1, api.ErrWord)
	if deferred != 41 {
		t.Errorf("%d were done, not 41", deferred)
	}
}

// TestStopPlace: the place is where the reader stood at the error, though what was deferred goes on reading.
func TestStopPlace(t *testing.T) {
	read(t, "a b c", func(r *word.Reader) {
		defer r.Is("b")
		r.Must("a")
		r.Must("x")
	}, 2, api.ErrWord)
	read(t, "a b c", func(r *word.Reader) {
		defer r.Number(0, 9)
		r.Must("a")
		r.Must("x")
	}, 2, api.ErrWord)
}

// TestStopCaught: Read answers the error though do catches what the reader throws, be it to end, to read on, or to throw it again.
func TestStopCaught(t *testing.T) {
	read(t, "a b", func(r *word.Reader) {
		r.Must("a")
		if thrown(func() { r.Number(0, 9) }) == nil {
			t.Error("nothing is thrown")
		}
	}, 2, api.ErrForm)
	read(t, "a b", func(r *word.Reader) {
		thrown(func() { r.Must("x") })
		r.Must("a")
		r.Must("b")
	}, 0, api.ErrWord)
	read(t, "a b", func(r *word.Reader) {
		r.Must("a")
		defer func() { panic(recover()) }()
		r.Must("x")
	}, 2, api.ErrWord)
}

// own is what a do of these tests throws.
type own struct{ n int }

func TestThrownOn(t *testing.T) {
	wrapped := errors.New("other")
	for _, x := range []any{
		"text", 7, 0, false, 2.5, own{3}, &own{4}, wrapped, []int{1}, map[string]int{},
		api.OK, api.ErrWord, api.ErrForm, api.ErrRange, api.ErrRest, word.Word{Text: "a"}, word.Reader{}, &word.Reader{},
	} {
		got := thrown(func() { word.Read("a", func(*word.Reader) { panic(x) }) })
		switch want := x.(type) {
		case []int:
			if l, ok := got.([]int); !ok || !slices.Equal(l, want) {
				t.Errorf("thrown is %v, not %v", got, want)
			}
		case map[string]int:
			if m, ok := got.(map[string]int); !ok || m == nil || len(m) != 0 {
				t.Errorf("thrown is %v, not %v", got, want)
			}
		case word.Reader:
			if _, ok := got.(word.Reader); !ok {
				t.Errorf("thrown is %v, not a reader", got)
			}
		default:
			if got != x {
				t.Errorf("thrown is %v, not %v", got, x)
			}
		}
	}
}

// TestThrownByReader: the reader itself, thrown by do, is nothing that the reader throws.
func TestThrownByReader(t *testing.T) {
	var mine *word.Reader
	got := thrown(func() {
		word.Read("a", func(r *word.Reader) {
			mine = r
			panic(r)
		})
	})
	if got != any(mine) || mine == nil {
		t.Errorf("thrown is %v", got)
	}
}

// TestThrownByGo: what the language throws goes on, too.
func TestThrownByGo(t *testing.T) {
	none := []int{}
	got := thrown(func() { word.Read("a", func(r *word.Reader) { none[len(none)]++ }) })
	if err, ok := got.(interface{ RuntimeError() }); !ok || err == nil {
		t.Errorf("thrown is %v", got)
	}
	if got := thrown(func() { word.Read("a", func(*word.Reader) { panic(nil) }) }); got == nil {
		t.Error("nothing is thrown")
	}
}

// TestThrownBehindStop: what do throws when it has caught the reader's error is thrown on.
func TestThrownBehindStop(t *testing.T) {
	got := thrown(func() {
		word.Read("a", func(r *word.Reader) {
			defer func() { panic(own{5}) }()
			r.Must("b")
		})
	})
	if got != any(own{5}) {
		t.Errorf("thrown is %v", got)
	}
}

// TestReadWithin: each Read answers its own reader's errors, and throws the other one's on.
func TestReadWithin(t *testing.T) {
	read(t, "a b", func(r *word.Reader) {
		r.Must("a")
		read(t, " c", func(in *word.Reader) { in.Must("d") }, 1, api.ErrWord)
		r.Must("b")
	}, 0, api.OK)
	read(t, "a b", func(r *word.Reader) {
		r.Must("a")
		word.Read(" c", func(in *word.Reader) {
			in.Must("c")
			r.Number(0, 9)
		})
		t.Error("the outer one goes on")
	}, 2, api.ErrForm)
	read(t, "a b", func(r *word.Reader) {
		read(t, " c 9", func(in *word.Reader) {
			r.Must("a")
			in.Must("c")
			r.Must("b")
			in.Number(0, 8)
		}, 3, api.ErrRange)
	}, 0, api.OK)
}

// TestThrownLater: what the reader of a Read that has ended threw isn't of another one's.
func TestThrownLater(t *testing.T) {
	var kept any
	word.Read("a", func(r *word.Reader) { kept = thrown(func() { r.Must("b") }) })
	if kept == nil {
		t.Fatal("nothing was thrown")
	}
	if got := thrown(func() { word.Read("a", func(*word.Reader) { panic(kept) }) }); got != kept {
		t.Errorf("thrown is %v", got)
	}
}

// TestReadAgain: R6: the same text, read again, is read the same, whatever went wrong ahead of it.
func TestReadAgain(t *testing.T) {
	for range 3 {
		read(t, "a 1", func(r *word.Reader) { r.Must("b") }, 0, api.ErrWord)
		thrown(func() { word.Read("a 1", func(*word.Reader) { panic(own{}) }) })
		read(t, "a 1", func(r *word.Reader) {
			r.Must("a")
			r.Number(1, 1)
		}, 0, api.OK)
	}
}

// model is a reader told apart: words that are left, and the text's length.
type model struct {
	left []word.Word
	end  int
}

func (m *model) place() int {
	if len(m.left) == 0 {
		return m.end
	}
	return m.left[0].At
}

// text: the next word; none is the newline, which no word is.
func (m *model) text() string {
	if len(m.left) == 0 {
		return "\n"
	}
	return m.left[0].Text
}

// number: what Number must tell of the next word.
func (m *model) number(from, to int64) (int64, api.Errno) {
	n, err := strconv.ParseInt(m.text(), 10, 64)
	switch {
	case err != nil || strconv.FormatInt(n, 10) != m.text() || n < 0 || n > api.MaxWhole:
		return 0, api.ErrForm
	case n < from || n > to:
		return 0, api.ErrRange
	}
	return n, api.OK
}

// step: one call of a reader, drawn at random, beside the model; the error at which do must stop there.
func step(t *testing.T, r *word.Reader, m *model, draw *rand.Rand) (code api.Errno, call func()) {
	text := m.text()
	if draw.Intn(6) == 0 {
		text = random(draw, "ab7 #")
	}
	fits := text == m.text() && len(m.left) > 0
	switch draw.Intn(3) {
	case 0:
		return api.OK, func() {
			if r.Is(text) != fits {
				t.Errorf("Is(%q) of %q is %v", text, m.text(), !fits)
			}
			if fits {
				m.left = m.left[1:]
			}
		}
	case 1:
		if !fits {
			code = api.ErrWord
		}
		return code, func() {
			r.Must(text)
			m.left = m.left[1:]
		}
	}
	from, to := draw.Int63n(9)-2, draw.Int63n(2000)
	want, code := m.number(from, to)
	return code, func() {
		if n := r.Number(from, to); n != want {
			t.Errorf("Number of %q is %d", m.text(), n)
		}
		m.left = m.left[1:]
	}
}

// TestReadAtRandom: calls in any order, beside the model, to the first error.
func TestReadAtRandom(t *testing.T) {
	draw := rand.New(rand.NewSource(2))
	for range 20000 {
		s := random(draw, "a1 2\n 0 3 #")
		m := &model{left: halves(s), end: len(s)}
		want, steps := api.OK, draw.Intn(20)
		at, code := word.Read(s, func(r *word.Reader) {
			for range steps {
				if r.Place() != m.place() || r.More() != (len(m.left) > 0) {
					t.Errorf("of %q: Place is %d, More %v, not %d", s, r.Place(), r.More(), m.place())
				}
				var call func()
				want, call = step(t, r, m, draw)
				call()
				if want != api.OK {
					t.Errorf("of %q: it goes on beyond %d", s, want)
				}
			}
		})
		place := m.place()
		switch {
		case want == api.OK && len(m.left) > 0:
			want = api.ErrRest
		case want == api.OK:
			place = 0
		}
		if at != place || code != want {
			t.Fatalf("Read(%q) is %d, %d, not %d, %d", s, at, code, place, want)
		}
	}
}
