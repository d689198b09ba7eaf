package word

import (
	"bytes"
	"math"
	"math/big"
	"slices"
	"testing"
)

// edgeNumbers: those at which bits, signs and shifts turn over.
func edgeNumbers() []int {
	out := []int{0, math.MinInt, math.MinInt + 1, math.MaxInt, math.MaxInt - 1}
	for k := range 63 {
		p := 1 << k
		out = append(out, p-1, p, p+1, -p-1, -p, -p+1)
	}
	return out
}

func edgeWords() []uint64 {
	var out []uint64
	for _, n := range edgeNumbers() {
		out = append(out, uint64(n))
	}
	return append(out, 0x0123456789abcdef, 0xfedcba9876543210, 0xaaaaaaaaaaaaaaaa)
}

func wrongBits() []int {
	return []int{0, -1, -8, 65, 66, 128, 1 << 32, math.MinInt, math.MaxInt}
}

func power(k int) *big.Int {
	return new(big.Int).Lsh(big.NewInt(1), uint(k))
}

// P1.1

func TestFitsIsItsBounds(t *testing.T) {
	for bits := 1; bits <= 64; bits++ {
		over := power(bits - 1)
		least := new(big.Int).Neg(over)
		for _, n := range edgeNumbers() {
			want := big.NewInt(int64(n)).Cmp(least) >= 0 && big.NewInt(int64(n)).Cmp(over) < 0
			if Fits(n, bits) != want {
				t.Errorf("Fits(%d, %d) isn't %v", n, bits, want)
			}
		}
	}
}

func TestCutIsTheOneThatFitsWithTheSameLowestBits(t *testing.T) {
	for bits := 1; bits <= 64; bits++ {
		for _, n := range edgeNumbers() {
			want := new(big.Int).Mod(big.NewInt(int64(n)), power(bits))
			if want.Cmp(power(bits-1)) >= 0 {
				want.Sub(want, power(bits))
			}
			got := Cut(n, bits)
			if int64(got) != want.Int64() {
				t.Errorf("Cut(%d, %d) is %d, not %d", n, bits, got, want)
			}
			if !Fits(got, bits) {
				t.Errorf("Cut(%d, %d) doesn't fit", n, bits)
			}
			if Fits(n, bits) && got != n {
				t.Errorf("%d fits %d bits, and isn't its own", n, bits)
			}
		}
	}
}

func TestCutExamples(t *testing.T) {
	for _, c := range []struct{ n, bits, want int }{
		{200, 8, -56}, {-56, 8, -56}, {127, 8, 127}, {128, 8, -128}, {-129, 8, 127}, {256, 8, 0},
		{0, 1, 0}, {1, 1, -1}, {-1, 1, -1}, {2, 1, 0}, {math.MinInt, 1, 0}, {math.MaxInt, 1, -1},
		{math.MinInt, 64, math.MinInt}, {math.MaxInt, 64, math.MaxInt}, {math.MinInt, 63, 0}, {math.MaxInt, 63, -1},
	} {
		if got := Cut(c.n, c.bits); got != c.want {
			t.Errorf("Cut(%d, %d) is %d, not %d", c.n, c.bits, got, c.want)
		}
	}
}

func TestWrongBitsFitNothing(t *testing.T) {
	for _, bits := range wrongBits() {
		for _, n := range edgeNumbers() {
			if Fits(n, bits) {
				t.Errorf("Fits(%d, %d)", n, bits)
			}
			if got := Cut(n, bits); got != 0 {
				t.Errorf("Cut(%d, %d) is %d", n, bits, got)
			}
		}
	}
}

// P1.2

func TestZigCountsOutwards(t *testing.T) {
	for u := range 2000 {
		n := u / 2
		if u%2 == 1 {
			n = -(u + 1) / 2
		}
		if Zig(n) != uint64(u) || Zag(uint64(u)) != n {
			t.Errorf("Zig(%d) is %d, Zag(%d) is %d", n, Zig(n), u, Zag(uint64(u)))
		}
	}
	for _, c := range []struct {
		n int
		u uint64
	}{
		{math.MaxInt, math.MaxUint64 - 1}, {math.MinInt, math.MaxUint64},
		{math.MaxInt - 1, math.MaxUint64 - 3}, {math.MinInt + 1, math.MaxUint64 - 2},
	} {
		if Zig(c.n) != c.u || Zag(c.u) != c.n {
			t.Errorf("Zig(%d) is %d, Zag(%d) is %d", c.n, Zig(c.n), c.u, Zag(c.u))
		}
	}
}

func TestZagUndoesZig(t *testing.T) {
	for _, n := range edgeNumbers() {
		if Zag(Zig(n)) != n {
			t.Errorf("Zag(Zig(%d)) is %d", n, Zag(Zig(n)))
		}
	}
	for _, u := range edgeWords() {
		if Zig(Zag(u)) != u {
			t.Errorf("Zig(Zag(%d)) is %d", u, Zig(Zag(u)))
		}
	}
}

func TestTurnMovesEachBit(t *testing.T) {
	turns := []int{1000, -1000, 1<<40 + 3, math.MinInt, math.MinInt + 1, math.MaxInt, math.MaxInt - 1}
	for k := -130; k <= 130; k++ {
		turns = append(turns, k)
	}
	for _, k := range turns {
		by := (k%64 + 64) % 64
		for place := range 64 {
			want := uint64(1) << ((place + by) % 64)
			if got := Turn(1<<place, k); got != want {
				t.Fatalf("Turn(1<<%d, %d) is %x, not %x", place, k, got, want)
			}
			if got := Turn(^(uint64(1) << place), k); got != ^want {
				t.Fatalf("Turn(^(1<<%d), %d) is %x, not %x", place, k, got, ^want)
			}
		}
	}
	if Turn(1, -1) != 1<<63 || Turn(1<<63, 1) != 1 || Turn(5, 0) != 5 || Turn(0, 7) != 0 {
		t.Error("Turn")
	}
}

func TestCountAndLow(t *testing.T) {
	for _, u := range edgeWords() {
		count, low := 0, 64
		for place := 63; place >= 0; place-- {
			if u>>place&1 == 1 {
				count, low = count+1, place
			}
		}
		if Count(u) != count || Low(u) != low {
			t.Errorf("Count(%x) is %d, Low is %d, not %d and %d", u, Count(u), Low(u), count, low)
		}
	}
	if Count(0) != 0 || Low(0) != 64 || Count(math.MaxUint64) != 64 || Low(math.MaxUint64) != 0 || Low(1<<63) != 63 {
		t.Error("the edges of Count and Low")
	}
}

// P1.3

func ones(n int) []int {
	return slices.Repeat([]int{1}, n)
}

func TestPackAndUnpack(t *testing.T) {
	for i, c := range []struct {
		widths, vals []int
		want         uint64
	}{
		{[]int{3, 5}, []int{5, 2}, 21},
		{nil, nil, 0},
		{[]int{}, nil, 0},
		{nil, []int{}, 0},
		{[]int{1}, []int{0}, 0},
		{[]int{1}, []int{1}, 1},
		{[]int{63}, []int{0}, 0},
		{[]int{63}, []int{math.MaxInt}, math.MaxInt},
		{[]int{63, 1}, []int{math.MaxInt, 1}, math.MaxUint64},
		{[]int{1, 63}, []int{0, math.MaxInt}, math.MaxUint64 - 1},
		{[]int{63, 1}, []int{0, 1}, 1 << 63},
		{[]int{32, 32}, []int{1, math.MaxUint32}, math.MaxUint32<<32 | 1},
		{[]int{8, 16, 24}, []int{0x11, 0x2233, 0x445566}, 0x445566223311},
		{ones(64), ones(64), math.MaxUint64},
	} {
		u, ok := Pack(c.widths, c.vals)
		if !ok || u != c.want {
			t.Errorf("%d: Pack is %x, %v, not %x", i, u, ok, c.want)
		}
		vals, ok := Unpack(c.widths, c.want)
		if !ok || !slices.Equal(vals, c.vals) {
			t.Errorf("%d: Unpack is %v, %v, not %v", i, vals, ok, c.vals)
		}
	}
}

func TestPackOfEachPairOfWidths(t *testing.T) {
	for first := 1; first <= 63; first++ {
		for second := 1; second <= 63 && first+second <= 64; second++ {
			widths := []int{first, second}
			most, more := 1<<first-1, 1<<second-1
			for _, vals := range [][]int{{1, 0}, {0, 1}, {most, 0}, {0, more}, {most, more}} {
				want := new(big.Int).Lsh(big.NewInt(int64(vals[1])), uint(first))
				want.Add(want, big.NewInt(int64(vals[0])))
				u, ok := Pack(widths, vals)
				if !ok || u != want.Uint64() {
					t.Fatalf("Pack(%v, %v) is %x, %v", widths, vals, u, ok)
				}
				if got, ok := Unpack(widths, u); !ok || !slices.Equal(got, vals) {
					t.Fatalf("Unpack(%v, %x) is %v, %v", widths, u, got, ok)
				}
			}
		}
	}
}

func wrongWidths() [][]int {
	return [][]int{
		{0}, {-1}, {64}, {65}, {math.MinInt}, {math.MaxInt},
		{3, 0}, {0, 3}, {3, -1, 3}, {-1, 2}, {63, 2}, {2, 63}, {40, 25}, {32, 32, 1},
		{63, -62, 63}, {math.MaxInt, math.MaxInt, 2}, {math.MinInt, math.MinInt}, {1, 64},
		ones(65), slices.Repeat([]int{63}, 1000),
	}
}

func TestWrongWidths(t *testing.T) {
	for _, widths := range wrongWidths() {
		if u, ok := Pack(widths, make([]int, len(widths))); ok || u != 0 {
			t.Errorf("Pack(%v) is %x, %v", widths, u, ok)
		}
		for _, u := range []uint64{0, 1, 8, math.MaxUint64} {
			if vals, ok := Unpack(widths, u); ok || len(vals) != 0 {
				t.Errorf("Unpack(%v, %x) is %v, %v", widths, u, vals, ok)
			}
		}
	}
}

func TestPackOfWrongNumbers(t *testing.T) {
	for i, c := range []struct{ widths, vals []int }{
		{[]int{3}, []int{8}}, {[]int{3}, []int{-1}}, {[]int{1}, []int{2}}, {[]int{63}, []int{-1}},
		{[]int{63}, []int{math.MinInt}}, {[]int{3}, []int{math.MaxInt}}, {[]int{62}, []int{1 << 62}},
		{[]int{3, 5}, []int{8, 2}}, {[]int{3, 5}, []int{5, 32}}, {[]int{3, 5}, []int{-1, 2}}, {[]int{3, 5}, []int{5, -1}},
		{[]int{3}, nil}, {nil, []int{0}}, {[]int{3, 5}, []int{5}}, {[]int{3}, []int{5, 0}}, {[]int{3, 5}, []int{5, 2, 0}},
	} {
		if u, ok := Pack(c.widths, c.vals); ok || u != 0 {
			t.Errorf("%d: Pack(%v, %v) is %x, %v", i, c.widths, c.vals, u, ok)
		}
	}
}

func TestUnpackWantsNoBitsAbove(t *testing.T) {
	for width := 1; width <= 63; width++ {
		for place := range 64 {
			vals, ok := Unpack([]int{width}, 1<<place)
			if place >= width && (ok || len(vals) != 0) {
				t.Errorf("Unpack({%d}, 1<<%d) is %v, %v", width, place, vals, ok)
			}
			if place < width && (!ok || !slices.Equal(vals, []int{1 << place})) {
				t.Errorf("Unpack({%d}, 1<<%d) is %v, %v", width, place, vals, ok)
			}
		}
	}
	if vals, ok := Unpack(nil, 0); !ok || len(vals) != 0 {
		t.Error("Unpack(nil, 0)", vals, ok)
	}
	for _, u := range []uint64{1, 1 << 63} {
		if vals, ok := Unpack(nil, u); ok || len(vals) != 0 {
			t.Errorf("Unpack(nil, %x) is %v, %v", u, vals, ok)
		}
	}
}

// P1.4

func TestBytesOfEachLength(t *testing.T) {
	for _, u := range edgeWords() {
		var all []byte
		for rest := u; rest > 0; rest /= 256 {
			all = append(all, byte(rest%256))
		}
		for n := 0; n <= 8; n++ {
			var want []byte
			if n >= len(all) {
				want = append(slices.Clone(all), make([]byte, n-len(all))...)
			}
			got := Bytes(u, n)
			if !bytes.Equal(got, want) {
				t.Errorf("Bytes(%x, %d) is %v, not %v", u, n, got, want)
			}
			if n < len(all) {
				continue
			}
			if back, ok := From(got); !ok || back != u {
				t.Errorf("From(%v) is %x, %v, not %x", got, back, ok, u)
			}
		}
	}
}

func TestBytesOfWrongLengths(t *testing.T) {
	for _, n := range []int{-1, -8, 9, 10, 16, 1 << 61, math.MinInt, math.MaxInt} {
		for _, u := range []uint64{0, 1, math.MaxUint64} {
			if got := Bytes(u, n); len(got) != 0 {
				t.Errorf("Bytes(%x, %d) is %v", u, n, got)
			}
		}
	}
}

func TestFrom(t *testing.T) {
	for _, c := range []struct {
		b    []byte
		want uint64
		ok   bool
	}{
		{nil, 0, true}, {[]byte{}, 0, true}, {[]byte{0}, 0, true}, {[]byte{255}, 255, true},
		{[]byte{1, 2}, 513, true}, {[]byte{1, 2, 0}, 513, true}, {[]byte{0, 0, 1}, 1 << 16, true},
		{[]byte{8, 7, 6, 5, 4, 3, 2, 1}, 0x0102030405060708, true},
		{make([]byte, 8), 0, true},
		{bytes.Repeat([]byte{255}, 8), math.MaxUint64, true},
		{make([]byte, 9), 0, false},
		{append([]byte{1}, make([]byte, 8)...), 0, false},
		{bytes.Repeat([]byte{255}, 1000), 0, false},
	} {
		if u, ok := From(c.b); u != c.want || ok != c.ok {
			t.Errorf("From(%v) is %x, %v, not %x, %v", c.b, u, ok, c.want, c.ok)
		}
	}
}

// P1.5

// within: a list with other elements behind its length, and all of its memory.
func within[E any](list []E, behind E) (part, whole []E) {
	whole = append(slices.Clone(list), behind, behind, behind)
	return whole[:len(list)], whole
}

func TestWhatIsHandedInStays(t *testing.T) {
	lists := append(wrongWidths(), []int{3, 5}, []int{63, 1}, nil)
	for _, list := range lists {
		widths, allWidths := within(list, 7)
		vals, allVals := within(make([]int, len(list)), 9)
		Pack(widths, vals)
		Unpack(widths, 0)
		Unpack(widths, math.MaxUint64)
		Pack(vals, widths)
		if !slices.Equal(allWidths, append(slices.Clone(list), 7, 7, 7)) {
			t.Errorf("%v was changed: %v", list, allWidths)
		}
		if !slices.Equal(allVals, append(make([]int, len(list)), 9, 9, 9)) {
			t.Errorf("numbers of %v were changed: %v", list, allVals)
		}
	}
	for n := range 12 {
		b, all := within(bytes.Repeat([]byte{5}, n), 6)
		From(b)
		if !bytes.Equal(all, append(bytes.Repeat([]byte{5}, n), 6, 6, 6)) {
			t.Errorf("bytes were changed: %v", all)
		}
	}
}

// fill writes over all of a list's memory, its spare room too.
func fill[E any](list []E, e E) {
	list = list[:cap(list)]
	for i := range list {
		list[i] = e
	}
}

func TestWhatIsAnsweredIsNew(t *testing.T) {
	widths, whole := within([]int{3, 5, 8}, 7)
	first, _ := Unpack(widths, 0x0a15)
	second, _ := Unpack(widths, 0x0a15)
	fill(first, -1)
	if !slices.Equal(whole, []int{3, 5, 8, 7, 7, 7}) {
		t.Error("Unpack's answer lies in its widths", whole)
	}
	third, _ := Unpack(widths, 0x0a15)
	want := []int{5, 2, 10}
	if !slices.Equal(second, want) || !slices.Equal(third, want) {
		t.Error("Unpack's answers share memory", second, third)
	}
	for n := 2; n <= 8; n++ {
		a, b := Bytes(0x0201, n), Bytes(0x0201, n)
		fill(a, 9)
		if c := Bytes(0x0201, n); !bytes.Equal(b, c) || b[0] != 1 || b[1] != 2 {
			t.Error("Bytes' answers share memory", b, c)
		}
	}
}

// P1

func TestNoCallPanics(t *testing.T) {
	numbers, words := edgeNumbers(), edgeWords()
	for _, a := range numbers {
		for _, b := range numbers {
			Fits(a, b)
			Cut(a, b)
			Turn(uint64(a), b)
			Bytes(uint64(a), b)
			Pack([]int{a, b}, []int{b, a})
			Pack([]int{a}, []int{b})
			Pack([]int{a, b}, []int{a})
			Unpack([]int{a, b}, uint64(b))
		}
		Zig(a)
	}
	for _, u := range words {
		Zag(u)
		Count(u)
		Low(u)
		Unpack(nil, u)
	}
	long := make([]int, 100000)
	Pack(long, long)
	Pack(nil, long)
	Pack(long, nil)
	Unpack(long, 1)
	From(make([]byte, 100000))
}

func FuzzWord(f *testing.F) {
	f.Add(200, 8, uint64(0x81), []byte{3, 5, 63, 1})
	f.Add(math.MinInt, 64, uint64(math.MaxUint64), []byte{})
	f.Add(-1, -1, uint64(0), bytes.Repeat([]byte{1}, 65))
	f.Fuzz(func(t *testing.T, n, k int, u uint64, b []byte) {
		if Fits(n, k) && Cut(n, k) != n {
			t.Error("what fits isn't its own")
		}
		if Zag(Zig(n)) != n || Zig(Zag(u)) != u {
			t.Error("Zig and Zag")
		}
		if Count(Turn(u, k)) != Count(u) {
			t.Error("Turn loses bits")
		}
		if got := Bytes(u, k); len(got) > 0 {
			if back, ok := From(got); !ok || back != u {
				t.Error("Bytes and From")
			}
		}
		if w, ok := From(b); ok && !bytes.Equal(Bytes(w, len(b)), b) {
			t.Error("From and Bytes")
		}
		widths := make([]int, len(b))
		for i, x := range b {
			widths[i] = int(int8(x))
		}
		if vals, ok := Unpack(widths, u); ok {
			if back, ok := Pack(widths, vals); !ok || back != u {
				t.Error("Unpack and Pack")
			}
		}
	})
}
