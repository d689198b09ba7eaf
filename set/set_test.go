package set

import (
	"math"
	"regexp"
	"slices"
	"strconv"
	"strings"
	"testing"

	"concordat/api"
)

// spread is a set told apart from words: is each category in it?
type spread [64]bool

func (in spread) word() uint64 {
	s, bit := uint64(0), uint64(1)
	for _, there := range in {
		if there {
			s += bit
		}
		bit += bit
	}
	return s
}

func (in spread) list() []int {
	var list []int
	for c, there := range in {
		if there {
			list = append(list, c)
		}
	}
	return list
}

// text grows a stretch for as long as the next category is there.
func (in spread) text() string {
	text := ""
	for c := 0; c < 64; c++ {
		if !in[c] {
			continue
		}
		first := c
		for c < 63 && in[c+1] {
			c++
		}
		text += "," + strconv.Itoa(first)
		if c > first {
			text += "-" + strconv.Itoa(c)
		}
	}
	if text == "" {
		return "none"
	}
	return text[1:]
}

func spreadOf(s uint64) spread {
	var in spread
	for c := range in {
		in[c] = s%2 == 1
		s /= 2
	}
	return in
}

// everyStretch: the sets of one stretch, those of one category and that of all among them.
func everyStretch() []spread {
	var out []spread
	for first := range 64 {
		var in spread
		for last := first; last < 64; last++ {
			in[last] = true
			out = append(out, in)
		}
	}
	return out
}

// mixedWords follow a short rule by which each bit comes and goes.
func mixedWords(n int) []uint64 {
	var out []uint64
	u := uint64(0x9e3779b97f4a7c15)
	for range n {
		u = u*6364136223846793005 + 1442695040888963407
		out = append(out, u^u>>29, u&(u>>31|u<<33), u|u<<17)
	}
	return out
}

func edgeWords() []uint64 {
	return []uint64{
		0, 1, 2, 3, 5, 11, 1 << 62, 1 << 63, 1<<63 | 1, 3 << 62, 5 << 61, 13 << 60, 1<<63 - 1,
		math.MaxUint64, math.MaxUint64 - 1, math.MaxUint32, math.MaxUint32 << 32, 1<<63 | 1<<62 | 1<<10,
		0x5555555555555555, 0xaaaaaaaaaaaaaaaa, 0x3333333333333333, 0x6666666666666666, 0x7777777777777777, 0xeeeeeeeeeeeeeeee,
	}
}

// fewSpreads, to be held against each other.
func fewSpreads() []spread {
	var out []spread
	for _, s := range slices.Concat(edgeWords(), mixedWords(20)) {
		out = append(out, spreadOf(s))
	}
	return out
}

func samples() []spread {
	out := append(fewSpreads(), everyStretch()...)
	for _, in := range everyStretch() {
		out = append(out, spreadOf(^in.word()))
	}
	for _, s := range mixedWords(200) {
		out = append(out, spreadOf(s))
	}
	return out
}

func wrongNumbers() []int {
	out := []int{-1, -2, -63, -64, -65, 64, 65, 66, 127, 128, 129, 255, 256, 1 << 16, 1 << 31, 1 << 32, 1<<32 + 1, -1 << 32}
	for near := range 70 {
		out = append(out, math.MinInt+near, math.MaxInt-near)
	}
	return out
}

// P6.1

func TestOfIsTheSetOfItsCategories(t *testing.T) {
	for _, in := range samples() {
		list := in.list()
		backwards := slices.Clone(list)
		slices.Reverse(backwards)
		for _, told := range [][]int{list, backwards, slices.Concat(list, list), slices.Concat(backwards, list, backwards)} {
			if s, ok := Of(told); !ok || s != in.word() {
				t.Fatalf("Of(%v) is %x, %v", told, s, ok)
			}
		}
	}
}

func TestOfExamples(t *testing.T) {
	for _, c := range []struct {
		list []int
		want uint64
	}{
		{nil, 0}, {[]int{}, 0}, {[]int{3, 0, 1}, 11}, {[]int{0}, 1}, {[]int{63}, 1 << 63}, {[]int{63, 0}, 1<<63 | 1},
		{[]int{5, 5}, 32}, {[]int{0, 0, 0}, 1}, {[]int{63, 63}, 1 << 63}, {[]int{1, 2, 1, 2, 1}, 6},
		{slices.Repeat([]int{7}, 1000), 128},
	} {
		if s, ok := Of(c.list); !ok || s != c.want {
			t.Errorf("Of(%v) is %x, %v, not %x", c.list, s, ok, c.want)
		}
	}
}

func TestOfWantsCategoriesAlone(t *testing.T) {
	for _, wrong := range wrongNumbers() {
		lists := [][]int{{wrong}, {wrong, wrong}, {wrong, -wrong}}
		for at := range 4 {
			lists = append(lists, slices.Insert([]int{0, 5, 63}, at, wrong))
		}
		for _, list := range lists {
			if s, ok := Of(list); ok || s != 0 {
				t.Errorf("Of(%v) is %x, %v", list, s, ok)
			}
		}
	}
}

func TestListRises(t *testing.T) {
	for _, in := range samples() {
		if list := List(in.word()); !slices.Equal(list, in.list()) {
			t.Fatalf("List(%x) is %v, not %v", in.word(), list, in.list())
		}
	}
	if list := List(0); len(list) != 0 {
		t.Error("the empty set has", list)
	}
	if list := List(math.MaxUint64); len(list) != 64 || list[0] != 0 || list[63] != 63 {
		t.Error("the set of all has", list)
	}
}

func TestHas(t *testing.T) {
	for _, in := range samples() {
		for c, want := range in {
			if Has(in.word(), c) != want {
				t.Fatalf("Has(%x, %d) isn't %v", in.word(), c, want)
			}
		}
	}
	for _, wrong := range wrongNumbers() {
		for _, s := range edgeWords() {
			if Has(s, wrong) {
				t.Errorf("Has(%x, %d)", s, wrong)
			}
		}
	}
}

func TestWithinAndMinus(t *testing.T) {
	for _, a := range fewSpreads() {
		for _, b := range fewSpreads() {
			var rest spread
			within := true
			for c := range a {
				rest[c] = a[c] && !b[c]
				within = within && !rest[c]
			}
			if got := Minus(a.word(), b.word()); got != rest.word() {
				t.Fatalf("Minus(%x, %x) is %x, not %x", a.word(), b.word(), got, rest.word())
			}
			if Within(a.word(), b.word()) != within {
				t.Fatalf("Within(%x, %x) isn't %v", a.word(), b.word(), within)
			}
		}
	}
}

func TestOneCategoryDecidesWithin(t *testing.T) {
	for c := range 64 {
		bit := uint64(1) << c
		for _, s := range edgeWords() {
			if !Within(s, s|bit) || !Within(s, s) || !Within(0, s) || !Within(s, math.MaxUint64) {
				t.Errorf("%x isn't within more", s)
			}
			if Within(s|bit, s&^bit) {
				t.Errorf("%x is within %x", s|bit, s&^bit)
			}
		}
	}
}

// P6.2

func TestShowAndRead(t *testing.T) {
	for _, in := range samples() {
		if got := Show(in.word()); got != in.text() {
			t.Fatalf("Show(%x) is %q, not %q", in.word(), got, in.text())
		}
		if s, ok := Read(in.text()); !ok || s != in.word() {
			t.Fatalf("Read(%q) is %x, %v, not %x", in.text(), s, ok, in.word())
		}
	}
}

func TestShowAndReadExamples(t *testing.T) {
	for _, c := range []struct {
		s    uint64
		text string
	}{
		{0, "none"}, {11, "0-1,3"}, {1, "0"}, {1 << 63, "63"}, {1 << 9, "9"}, {1 << 10, "10"},
		{3, "0-1"}, {7, "0-2"}, {6, "1-2"}, {3 << 62, "62-63"}, {7 << 61, "61-63"}, {5, "0,2"},
		{1<<63 | 1, "0,63"}, {3<<62 | 3, "0-1,62-63"}, {1<<63 | 7, "0-2,63"}, {7<<61 | 1, "0,61-63"},
		{3 << 9, "9-10"}, {1<<63 | 1<<62 | 1<<10, "10,62-63"}, {0b1101100, "2-3,5-6"},
		{math.MaxUint64, "0-63"}, {math.MaxUint64 - 1, "1-63"}, {1<<63 - 1, "0-62"},
		{math.MaxUint64 &^ (1 << 31), "0-30,32-63"}, {math.MaxUint64 &^ (1 << 1), "0,2-63"},
	} {
		if got := Show(c.s); got != c.text {
			t.Errorf("Show(%x) is %q, not %q", c.s, got, c.text)
		}
		if s, ok := Read(c.text); !ok || s != c.s {
			t.Errorf("Read(%q) is %x, %v, not %x", c.text, s, ok, c.s)
		}
	}
}

func wrongTexts() []string {
	return []string{
		"", "none,", ",none", "none,1", "1,none", "none-1", "1-none", "nonenone", "none,none", " none", "none ", "none\n", "non", "one", "None", "NONE", "none\x00",
		"+1", "-1", "+0", "-0", "--1", "1--2", "0-+1", "0--1", "+0-1", "-0-1", "-63", "0-1,+3",
		" 1", "1 ", "0 -1", "0- 1", "0-1, 3", "0-1 ,3", "0-1,3 ", "\t1", "1\n", "1\r\n", "1\x00", " ", "\u00a01",
		"00", "01", "007", "063", "00-1", "0-01", "01-2", "0-1,03", "000000000000000000000000000000000001",
		",", ",,", "0,", ",0", "0,,2", "0-1,", ",0-1", "0-1,,3", ",0,2", "0,2,", ",0,",
		"-", "0-", "0-1-", "0-1-2", "0-2-1", "-0-1", "0-,2", "0,-2", "0-1,3-", "0-1,-3", "0,-,2",
		"1-1", "0-0", "63-63", "0-0,2", "0,2-2", "2-1", "63-0", "1-0", "5-3,7", "0,63-62",
		"1,0", "3,0-1", "63,0", "62-63,0-1", "2,0,4", "4-5,0-1", "0-1,6,4",
		"0,1", "0-1,2", "0,1-2", "0-1,2-3", "0,2,3", "62,63", "0-62,63", "61,62-63", "0-30,31-63", "9,10",
		"1,1", "0,0", "63,63", "0-1,1", "0-1,0", "0-2,1-3", "0-5,2-3", "0-3,3-5", "2,1-3", "0-63,5", "5,0-63", "0-1,0-1",
		"64", "65", "99", "100", "0-64", "63-64", "64-65", "0,64", "0-1,64", "64,66", "128", "256", "0-255", "640", "0-630",
		"4294967296", "4294967297", "9223372036854775807", "9223372036854775808", "18446744073709551615", "18446744073709551616", "18446744073709551617",
		"0-18446744073709551617", "36893488147419103232-1", strings.Repeat("1", 1000), "0-" + strings.Repeat("9", 1000), strings.Repeat("0", 1000),
		"a", "0-a", "a-1", "0xf", "0x1", "0b1", "1e1", "1.0", "1_0", "0_1", "1;2", "0:1", "0–1", "0/1", "0.2", "\x80", "\xff", "0\xff", "\xff0", "0\x80,2", "0-\xff", "١", "０", "0，2", "{0}", "[0]", "(0)", "0-1,3\xc3",
		strings.Repeat(",", 1000), strings.Repeat("-", 1000), strings.Repeat("0,", 1000), strings.Repeat("0,", 1000) + "0", strings.Repeat("0-1-", 1000) + "2",
	}
}

func TestReadOfWrongTexts(t *testing.T) {
	for _, text := range wrongTexts() {
		if s, ok := Read(text); ok || s != 0 {
			t.Errorf("Read(%q) is %x, %v", text, s, ok)
		}
	}
}

const (
	numberForm  = `(0|[1-9]|[1-5][0-9]|6[0-3])`
	stretchForm = numberForm + `(-` + numberForm + `)?`
)

var textForm = regexp.MustCompile(`\A` + stretchForm + `(,` + stretchForm + `)*\z`)

// strictly: the set of a text by its form and the rising of its numbers, without spelling any set.
func strictly(text string) (uint64, bool) {
	if text == "none" {
		return 0, true
	}
	if !textForm.MatchString(text) {
		return 0, false
	}
	var in spread
	end := -2
	for part := range strings.SplitSeq(text, ",") {
		ends := strings.Split(part, "-")
		first, _ := strconv.Atoi(ends[0])
		last, _ := strconv.Atoi(ends[len(ends)-1])
		if first < end+2 || last < first || len(ends) == 2 && last == first {
			return 0, false
		}
		for c := first; c <= last; c++ {
			in[c] = true
		}
		end = last
	}
	return in.word(), true
}

func wantStrictly(t *testing.T, text string) {
	t.Helper()
	want, right := strictly(text)
	if s, ok := Read(text); ok != right || s != want {
		t.Errorf("Read(%q) is %x, %v, not %x, %v", text, s, ok, want, right)
	}
}

// TestReadOfTextsNearby takes right texts and puts, in place of each byte, ahead of it and behind the last one, each other byte, or none.
func TestReadOfTextsNearby(t *testing.T) {
	texts := []string{"none", "0", "9", "63", "0-1", "1-2", "62-63", "0-63", "0-1,3", "10,62-63", "2-3,5-6", "0,2,4", "9-10,12", "0-2,61-63", "8-9,19-20"}
	for _, text := range texts {
		for at := range len(text) + 1 {
			behind := text[min(at+1, len(text)):]
			wantStrictly(t, text[:at]+behind)
			for x := range 256 {
				one := string([]byte{byte(x)})
				wantStrictly(t, text[:at]+one+behind)
				wantStrictly(t, text[:at]+one+text[at:])
			}
		}
	}
}

// TestReadOfShortTexts: each of up to six letters of those of which texts are made.
func TestReadOfShortTexts(t *testing.T) {
	texts := []string{""}
	for range 6 {
		var longer []string
		for _, text := range texts {
			wantStrictly(t, text)
			for _, letter := range []string{"0", "1", "2", "3", "6", "-", ",", " "} {
				longer = append(longer, text+letter)
			}
		}
		texts = longer
	}
}

func TestReadOfEachStretchOfTwoNumbers(t *testing.T) {
	for first := -1; first < 67; first++ {
		for last := -1; last < 67; last++ {
			for _, between := range []string{"-", ","} {
				wantStrictly(t, strconv.Itoa(first)+between+strconv.Itoa(last))
			}
		}
	}
}

// P6.3

func TestTakeGivesTheLeastFirst(t *testing.T) {
	for _, in := range fewSpreads() {
		p := NewPool(in.word())
		if p.Taken() != in.word() {
			t.Fatalf("a pool of %x has %x taken", in.word(), p.Taken())
		}
		for c := range in {
			if in[c] {
				continue
			}
			in[c] = true
			if got, err := p.Take(); err != api.OK || got != c || p.Taken() != in.word() {
				t.Fatalf("Take is %d, %v, and %x is taken; not %d, and %x", got, err, p.Taken(), c, in.word())
			}
		}
		for range 2 {
			if got, err := p.Take(); err != api.ErrMany || got != 0 || p.Taken() != math.MaxUint64 {
				t.Fatalf("Take of nothing is %d, %v, and %x is taken", got, err, p.Taken())
			}
		}
	}
}

// leastFree: the n least that aren't taken, or that there aren't so many.
func leastFree(in spread, n int) (spread, bool) {
	var least spread
	for c := range in {
		if n > 0 && !in[c] {
			least[c] = true
			n--
		}
	}
	return least, n == 0
}

func TestManyGivesTheLeast(t *testing.T) {
	for _, in := range samples() {
		for n := range 65 {
			p := NewPool(in.word())
			s, err := p.Many(n)
			least, ok := leastFree(in, n)
			if !ok {
				if err != api.ErrMany || s != 0 || p.Taken() != in.word() {
					t.Fatalf("Many(%d) of %x is %x, %v, and %x is taken", n, in.word(), s, err, p.Taken())
				}
				continue
			}
			if err != api.OK || s != least.word() || p.Taken() != in.word()+least.word() {
				t.Fatalf("Many(%d) of %x is %x, %v, and %x is taken; not %x", n, in.word(), s, err, p.Taken(), least.word())
			}
		}
	}
}

func TestManyOfWrongNumbers(t *testing.T) {
	for _, wrong := range wrongNumbers() {
		if wrong == 64 { // no category, but as many as there are
			continue
		}
		for _, taken := range edgeWords() {
			p := NewPool(taken)
			if s, err := p.Many(wrong); err != api.ErrRange || s != 0 || p.Taken() != taken {
				t.Errorf("Many(%d) of %x is %x, %v, and %x is taken", wrong, taken, s, err, p.Taken())
			}
		}
	}
}

func TestPoolExamples(t *testing.T) {
	for _, c := range []struct {
		taken uint64
		n     int
		want  uint64
		err   api.Errno
	}{
		{0, 0, 0, api.OK}, {0, 1, 1, api.OK}, {0, 3, 7, api.OK}, {0, 63, 1<<63 - 1, api.OK}, {0, 64, math.MaxUint64, api.OK}, {0, 65, 0, api.ErrRange},
		{1, 63, math.MaxUint64 - 1, api.OK}, {1, 64, 0, api.ErrMany}, {0b101, 3, 0b11010, api.OK},
		{math.MaxUint64, 0, 0, api.OK}, {math.MaxUint64, 1, 0, api.ErrMany}, {math.MaxUint64, 64, 0, api.ErrMany}, {math.MaxUint64, 65, 0, api.ErrRange}, {math.MaxUint64, -1, 0, api.ErrRange},
		{1<<63 - 1, 0, 0, api.OK}, {1<<63 - 1, 1, 1 << 63, api.OK}, {1<<63 - 1, 2, 0, api.ErrMany}, {math.MaxUint64 - 1, 1, 1, api.OK}, {math.MaxUint64 - 1, 2, 0, api.ErrMany},
		{math.MaxUint64 &^ (1 << 40), 1, 1 << 40, api.OK}, {math.MaxUint64 &^ (1 << 40), 64, 0, api.ErrMany},
	} {
		p := NewPool(c.taken)
		if s, err := p.Many(c.n); err != c.err || s != c.want || p.Taken() != c.taken|c.want {
			t.Errorf("Many(%d) of %x is %x, %v, and %x is taken", c.n, c.taken, s, err, p.Taken())
		}
	}
}

// TestPoolBehindManyCalls mixes its calls; those that are refused take nothing.
func TestPoolBehindManyCalls(t *testing.T) {
	for _, rule := range mixedWords(100) {
		in := spreadOf(rule & (rule >> 7) & (rule << 5))
		p := NewPool(in.word())
		for range 40 {
			rule = rule*6364136223846793005 + 1442695040888963407
			step(t, p, &in, int(rule>>40)%8-1)
		}
	}
}

// step takes so many of a pool, or one below 0, and holds it against what is to be taken.
func step(t *testing.T, p *Pool, in *spread, n int) {
	t.Helper()
	many := n
	if n < 0 {
		many = 1
	}
	least, ok := leastFree(*in, many)
	wantErr, want := api.OK, least.word()
	if !ok {
		wantErr, want = api.ErrMany, 0
	}
	var s uint64
	var err api.Errno
	if n < 0 {
		var c int
		c, err = p.Take()
		if err == api.OK {
			s = uint64(1) << c
		}
	} else {
		s, err = p.Many(n)
	}
	if err != wantErr || s != want {
		t.Fatalf("%d of %x is %x, %v, not %x, %v", n, in.word(), s, err, want, wantErr)
	}
	*in = spreadOf(in.word() + want)
	if p.Taken() != in.word() {
		t.Fatalf("%x is taken, not %x", p.Taken(), in.word())
	}
}

// P6.4

func TestWhatIsHandedInStays(t *testing.T) {
	lists := [][]int{nil, {3, 0, 1}, {5, 5}, {63, 0}, {-1, 3}, {3, 64}, {math.MinInt}, slices.Repeat([]int{9, 8}, 100)}
	for _, list := range lists {
		whole := append(slices.Clone(list), 7, -7, 70)
		Of(whole[:len(list)])
		if !slices.Equal(whole, append(slices.Clone(list), 7, -7, 70)) {
			t.Errorf("%v was changed: %v", list, whole)
		}
	}
}

func TestWhatIsAnsweredIsNew(t *testing.T) {
	for _, in := range fewSpreads() {
		first, second := List(in.word()), List(in.word())
		// Over all of the first one's memory, its spare room too.
		first = first[:cap(first)]
		for i := range first {
			first[i] = -1
		}
		if !slices.Equal(second, in.list()) || !slices.Equal(List(in.word()), in.list()) {
			t.Errorf("answers of List(%x) share memory", in.word())
		}
	}
}

func TestPoolsShareNothing(t *testing.T) {
	list := []int{0, 2}
	s, _ := Of(list)
	one, other := NewPool(s), NewPool(s)
	list[0] = 1
	one.Many(10)
	if other.Taken() != 0b101 {
		t.Errorf("another pool has %x taken", other.Taken())
	}
	if c, err := other.Take(); err != api.OK || c != 1 {
		t.Error("another pool gives", c, err)
	}
	if one.Taken() != 1<<12-1 {
		t.Errorf("%x is taken", one.Taken())
	}
}

func TestNoAnswerHangsOnCallsBefore(t *testing.T) {
	for _, in := range fewSpreads() {
		Of([]int{1, 2, 3})
		Read("4-9,11")
		NewPool(0).Many(64)
		if Show(in.word()) != in.text() || Show(in.word()) != in.text() {
			t.Errorf("%x is shown otherwise a second time", in.word())
		}
		if s, ok := Read(in.text()); !ok || s != in.word() {
			t.Errorf("%q is read otherwise a second time", in.text())
		}
	}
}

// P1

func TestNoCallPanics(t *testing.T) {
	numbers := slices.Concat(wrongNumbers(), []int{0, 1, 62, 63})
	for _, s := range slices.Concat(edgeWords(), mixedWords(10)) {
		for _, n := range numbers {
			Has(s, n)
			p := NewPool(s)
			p.Many(n)
			p.Take()
			p.Many(-n)
			p.Taken()
		}
	}
	for _, text := range []string{
		strings.Repeat("0", 1<<20), strings.Repeat("9", 1<<20), strings.Repeat(",", 1<<20), strings.Repeat("-", 1<<20),
		strings.Repeat("0-63,", 1<<18), strings.Repeat("none", 1<<18), strings.Repeat("\xff", 1<<20), string(make([]byte, 1<<20)),
	} {
		if s, ok := Read(text); ok || s != 0 {
			t.Errorf("a long text is %x, %v", s, ok)
		}
	}
	if s, ok := Of(slices.Repeat([]int{63, 1}, 1<<18)); !ok || s != 1<<63|2 {
		t.Errorf("a long list is %x, %v", s, ok)
	}
}

func FuzzSet(f *testing.F) {
	f.Add("0-1,3", uint64(11), 3)
	f.Add("none", uint64(0), 0)
	f.Add("0-63", uint64(math.MaxUint64), 64)
	f.Add("10,62-63", uint64(1<<63), -1)
	f.Fuzz(func(t *testing.T, text string, s uint64, n int) {
		wantStrictly(t, text)
		in := spreadOf(s)
		if Show(s) != in.text() || !slices.Equal(List(s), in.list()) {
			t.Error("Show, or List")
		}
		if got, ok := Read(Show(s)); !ok || got != s {
			t.Error("Read of what is shown")
		}
		if got, ok := Of([]int{n}); ok != (n >= 0 && n < 64) || ok && !Has(got, n) || !ok && Has(s, n) {
			t.Error("Of, or Has")
		}
		p := NewPool(s)
		if n >= 0 && n <= 64 {
			step(t, p, &in, n)
		} else if _, err := p.Many(n); err != api.ErrRange {
			t.Error("Many out of its bounds")
		}
		step(t, p, &in, -1)
	})
}
