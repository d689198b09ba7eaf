package sum

import (
	"bytes"
	"math"
	"math/big"
	"testing"
)

// samples: bytes of the lengths and kinds at which a sum's steps turn over.
func samples() [][]byte {
	out := [][]byte{
		nil, {}, {0}, {1}, {0x80}, {0xff}, {0xb7}, {0, 0}, {0xb7, 0x04}, {0xb7, 0x04, 0xce}, {0, 0, 0}, {0xb7, 0x04, 0xce, 0},
		[]byte("1"), []byte("123456789"), []byte("two-phase commit among compartments"),
		bytes.Repeat([]byte{0}, 32), bytes.Repeat([]byte{0xff}, 32), bytes.Repeat([]byte{0xaa, 0x55}, 40),
	}
	var each []byte
	for x := range 256 {
		each = append(each, byte(x))
		out = append(out, []byte{byte(x)}, []byte{byte(x), byte(3 * x), byte(x * x)})
	}
	return append(out, each)
}

// fewSamples: those that each bit of is turned.
func fewSamples() [][]byte {
	var out [][]byte
	for _, b := range samples() {
		if len(b) != 1 && len(b) != 3 || len(b) > 0 && b[0]%37 == 0 {
			out = append(out, b)
		}
	}
	return out
}

func edgeSums() []int {
	return []int{
		0, 1, 255, 256, 1<<16 - 1, 1 << 16, 1<<23 - 1, 1 << 23, 1<<24 - 2, 1<<24 - 1, begin,
		1 << 24, 1<<24 + 1, 1<<24 | begin, 1<<25 - 1, 1 << 31, 1 << 32, 1<<62 | 0x123456, math.MaxInt, math.MaxInt - 0x123456,
		-1, -2, -255, -256, -1 << 23, -1<<24 + 1, -1 << 24, -1<<24 - 1, -1<<24 | begin, math.MinInt, math.MinInt + 0x654321,
	}
}

// lowest: a number's lowest 24 bits, by division alone.
func lowest(sum int) int {
	rest := sum % (1 << 24)
	if rest < 0 {
		rest += 1 << 24
	}
	return rest
}

// divided: the sum as what is left of a division of polynomials of bits.
func divided(sum int, b []byte) int {
	all := new(big.Int).SetBytes(append(bytes.Clone(b), 0, 0, 0))
	start := new(big.Int).Lsh(big.NewInt(int64(lowest(sum))), uint(8*len(b)))
	all.Xor(all, start)
	by := big.NewInt(0x1864CFB)
	for all.BitLen() > 24 {
		all.Xor(all, new(big.Int).Lsh(by, uint(all.BitLen()-25)))
	}
	return int(all.Int64())
}

// P2.1

func TestSumOfTheExamples(t *testing.T) {
	for _, c := range []struct {
		b    []byte
		want int
	}{
		{nil, 0xB704CE}, {[]byte{}, 0xB704CE}, {[]byte("123456789"), 0x21CF02},
		{[]byte{0xb7}, 0x04CE00}, {[]byte{0xb7, 0x04}, 0xCE0000}, {[]byte{0xb7, 0x04, 0xce}, 0},
		{[]byte{0xb6}, 0x04CE00 ^ 0x864CFB},
	} {
		if got := Sum(c.b); got != c.want {
			t.Errorf("Sum(%v) is %x, not %x", c.b, got, c.want)
		}
	}
}

func TestSumIsWhatIsLeftOfADivision(t *testing.T) {
	for _, b := range samples() {
		if got, want := Sum(b), divided(0xB704CE, b); got != want {
			t.Errorf("Sum(%v) is %x, not %x", b, got, want)
		}
	}
}

func TestMoreGoesOn(t *testing.T) {
	for _, b := range samples() {
		whole := Sum(b)
		for at := range len(b) + 1 {
			if got := More(Sum(b[:at]), b[at:]); got != whole {
				t.Fatalf("More of the first %d of %v is %x, not %x", at, b, got, whole)
			}
		}
		sum := Sum(nil)
		for at := range b {
			sum = More(sum, b[at:at+1])
		}
		if sum != whole {
			t.Errorf("More, byte by byte, of %v is %x, not %x", b, sum, whole)
		}
	}
}

func TestMoreTakesTheLowestBitsOfAnySum(t *testing.T) {
	for _, sum := range edgeSums() {
		if got := More(sum, nil); got != lowest(sum) {
			t.Errorf("More(%x, nil) is %x, not %x", sum, got, lowest(sum))
		}
		for _, b := range samples() {
			want := divided(sum, b)
			if got := More(sum, b); got != want {
				t.Fatalf("More(%x, %v) is %x, not %x", sum, b, got, want)
			}
			if got := More(lowest(sum), b); got != want {
				t.Fatalf("More(%x, %v) is %x, not %x", lowest(sum), b, got, want)
			}
		}
	}
}

// P2.2

func TestThree(t *testing.T) {
	for _, c := range []struct {
		sum  int
		want []byte
	}{
		{0, []byte{0, 0, 0}}, {0x010203, []byte{1, 2, 3}}, {0xAA010203, []byte{1, 2, 3}}, {begin, []byte{0xb7, 4, 0xce}},
		{1 << 24, []byte{0, 0, 0}}, {-1, []byte{255, 255, 255}}, {-256, []byte{255, 255, 0}}, {-1 << 24, []byte{0, 0, 0}},
		{-1<<24 | begin, []byte{0xb7, 4, 0xce}}, {math.MinInt, []byte{0, 0, 0}}, {math.MaxInt, []byte{255, 255, 255}},
	} {
		if got := Three(c.sum); !bytes.Equal(got, c.want) {
			t.Errorf("Three(%x) is %v, not %v", c.sum, got, c.want)
		}
	}
	for _, sum := range edgeSums() {
		rest := lowest(sum)
		want := []byte{byte(rest / 65536), byte(rest / 256 % 256), byte(rest % 256)}
		if got := Three(sum); !bytes.Equal(got, want) {
			t.Errorf("Three(%x) is %v, not %v", sum, got, want)
		}
	}
}

func TestFits(t *testing.T) {
	for _, b := range samples() {
		sum := divided(begin, b)
		tail := []byte{byte(sum >> 16), byte(sum >> 8), byte(sum)}
		if !Fits(b, tail) {
			t.Errorf("%v doesn't fit %v", tail, b)
		}
		for _, wrong := range [][]byte{
			nil, {}, tail[:1], tail[:2], tail[1:], append(bytes.Clone(tail), 0), append([]byte{0}, tail...),
			append(bytes.Clone(tail), tail...), {tail[0] ^ 1, tail[1], tail[2]}, {tail[0], tail[1] ^ 1, tail[2]}, {tail[0], tail[1], tail[2] ^ 1},
		} {
			if Fits(b, wrong) {
				t.Errorf("%v fits %v", wrong, b)
			}
		}
	}
	tail := []byte{0x21, 0xcf, 0x02}
	if !Fits([]byte("123456789"), tail) || Fits([]byte("123456780"), tail) || Fits(nil, tail) || Fits(tail, []byte("123456789")) {
		t.Error("Fits")
	}
}

func TestSealAndOpen(t *testing.T) {
	for _, b := range samples() {
		sum := divided(begin, b)
		want := append(bytes.Clone(b), byte(sum>>16), byte(sum>>8), byte(sum))
		sealed := Seal(b)
		if !bytes.Equal(sealed, want) {
			t.Errorf("Seal(%v) is %v, not %v", b, sealed, want)
		}
		if got, ok := Open(want); !ok || !bytes.Equal(got, b) {
			t.Errorf("Open(%v) is %v, %v, not %v", want, got, ok, b)
		}
	}
}

func TestOpenOfFewBytes(t *testing.T) {
	empty := []byte{0xb7, 0x04, 0xce}
	if got, ok := Open(empty); !ok || len(got) != 0 {
		t.Error("sealed nothing isn't opened", got, ok)
	}
	for _, b := range [][]byte{
		nil, {}, {0}, {0xb7}, {0xce}, {0xb7, 0x04}, {0x04, 0xce}, {0, 0},
		{0, 0, 0}, {0xb7, 0x04, 0xcf}, {0xb7, 0x05, 0xce}, {0xb6, 0x04, 0xce}, {0xce, 0x04, 0xb7}, {255, 255, 255},
	} {
		if got, ok := Open(b); ok || len(got) != 0 {
			t.Errorf("Open(%v) is %v, %v", b, got, ok)
		}
	}
}

// Bytes that are put to sealed ones, or taken away, leave a right sum only where what is left of the division is nothing.
func TestOpenOfLongerAndShorterBytes(t *testing.T) {
	right := 0
	for _, b := range samples() {
		sealed := Seal(b)
		for _, other := range [][]byte{
			append(bytes.Clone(sealed), 1), append([]byte{1}, sealed...), sealed[1:], sealed[:len(sealed)-1], append(bytes.Clone(sealed), 0),
		} {
			want := len(other) >= 3 && divided(begin, other) == 0
			if want {
				right++
			}
			got, ok := Open(other)
			if ok != want || !ok && len(got) != 0 || ok && !bytes.Equal(got, other[:len(other)-3]) {
				t.Errorf("Open(%v) is %v, %v, not %v", other, got, ok, want)
			}
		}
	}
	if right == 0 {
		t.Error("none of them was right")
	}
}

// P2.3

func turn(b []byte, bit int) {
	b[bit/8] ^= 0x80 >> (bit % 8)
}

func TestTurnedBitsAreNotOpened(t *testing.T) {
	for _, b := range fewSamples() {
		sealed := Seal(b)
		for bit := range 8 * len(sealed) {
			for two := range 2 {
				if bit+two == 8*len(sealed) {
					continue
				}
				wrong := bytes.Clone(sealed)
				turn(wrong, bit)
				if two == 1 {
					turn(wrong, bit+1)
				}
				if got, ok := Open(wrong); ok || len(got) != 0 {
					t.Fatalf("Open of %v with bit %d turned, and %d more, is %v, %v", sealed, bit, two, got, ok)
				}
				if n := len(b); Fits(wrong[:n], wrong[n:]) {
					t.Fatalf("%v with bit %d turned, and %d more, fits", sealed, bit, two)
				}
			}
		}
	}
}

// The lowest bit of a byte's next one may also be held to be next to its highest.
func TestTurnedBitsOfTwoBytesAreNotOpened(t *testing.T) {
	for _, b := range fewSamples() {
		sealed := Seal(b)
		for at := range len(sealed) - 1 {
			wrong := bytes.Clone(sealed)
			wrong[at] ^= 0x80
			wrong[at+1] ^= 1
			if got, ok := Open(wrong); ok || len(got) != 0 {
				t.Fatalf("Open of %v turned at %d is %v, %v", sealed, at, got, ok)
			}
		}
	}
}

func TestSumOfSealedBytesIsNothing(t *testing.T) {
	for _, b := range samples() {
		if got := Sum(Seal(b)); got != 0 {
			t.Errorf("the sum of sealed %v is %x", b, got)
		}
	}
	for _, sum := range edgeSums() {
		if got := More(sum, Three(sum)); got != 0 {
			t.Errorf("More(%x) by its own three bytes is %x", sum, got)
		}
	}
}

// P2.4

// within: bytes with others behind their length, and all of their memory.
func within(b []byte) (part, whole []byte) {
	whole = append(bytes.Clone(b), 7, 7, 7, 7, 7)
	return whole[:len(b)], whole
}

// fill writes over all of a list's memory, its spare room too.
func fill(b []byte) {
	b = b[:cap(b)]
	for i := range b {
		b[i] = ^b[i]
	}
}

func TestWhatIsHandedInStays(t *testing.T) {
	for _, b := range append(samples(), Seal(nil), Seal([]byte("123456789"))) {
		part, whole := within(b)
		tail, allTail := within([]byte{1, 2, 3})
		Sum(part)
		More(5, part)
		Fits(part, tail)
		Fits(tail, part)
		Seal(part)
		Open(part)
		if !bytes.Equal(whole, append(bytes.Clone(b), 7, 7, 7, 7, 7)) {
			t.Errorf("%v was changed: %v", b, whole)
		}
		if !bytes.Equal(allTail, []byte{1, 2, 3, 7, 7, 7, 7, 7}) {
			t.Errorf("a tail was changed: %v", allTail)
		}
	}
}

func TestWhatIsAnsweredIsNew(t *testing.T) {
	for _, b := range append(samples(), Seal(nil), Seal([]byte("123456789"))) {
		part, whole := within(b)
		before := bytes.Clone(whole)
		first, second := Seal(part), Seal(part)
		want := bytes.Clone(second)
		fill(first)
		if !bytes.Equal(whole, before) || !bytes.Equal(second, want) || !bytes.Equal(Seal(part), want) {
			t.Errorf("Seal's answer of %v is no new memory", b)
		}
		sealed, allSealed := within(want)
		before = bytes.Clone(allSealed)
		one, _ := Open(sealed)
		other, _ := Open(sealed)
		fill(one)
		again, ok := Open(sealed)
		if !bytes.Equal(allSealed, before) || !bytes.Equal(other, b) || !ok || !bytes.Equal(again, b) {
			t.Errorf("Open's answer of %v is no new memory", want)
		}
	}
	for _, sum := range edgeSums() {
		first, second := Three(sum), Three(sum)
		want := bytes.Clone(second)
		fill(first)
		if !bytes.Equal(second, want) || !bytes.Equal(Three(sum), want) {
			t.Errorf("Three's answer of %x is no new memory", sum)
		}
	}
}

func TestNoAnswerHangsOnCallsBefore(t *testing.T) {
	for _, b := range samples() {
		first, sealed := Sum(b), Seal(b)
		Sum([]byte("others"))
		Open([]byte("others"))
		if Sum(b) != first || !bytes.Equal(Seal(b), sealed) {
			t.Errorf("a second time %v has another sum", b)
		}
	}
}

// P1

func TestNoCallPanics(t *testing.T) {
	long := bytes.Repeat([]byte{3, 1, 4, 1, 5}, 20000)
	for _, b := range append(samples(), long) {
		for _, sum := range edgeSums() {
			More(sum, b[:min(len(b), 8)])
			Three(sum)
		}
		Sum(b)
		Seal(b)
		Open(b)
		Fits(b, b)
		Fits(nil, b)
		Fits(b, nil)
	}
	if got, ok := Open(Seal(long)); !ok || !bytes.Equal(got, long) {
		t.Error("long bytes aren't opened")
	}
}

func FuzzSum(f *testing.F) {
	f.Add([]byte("123456789"), 4, 0xB704CE, 3)
	f.Add([]byte{}, 0, -1, 0)
	f.Add([]byte{0xb7, 0x04, 0xce}, 1, math.MinInt, 23)
	f.Fuzz(func(t *testing.T, b []byte, at, sum, bit int) {
		at = int(uint(at) % uint(len(b)+1))
		if More(Sum(b[:at]), b[at:]) != Sum(b) || More(sum, b) != divided(sum, b) {
			t.Error("More")
		}
		if got, ok := Open(b); ok && !bytes.Equal(Seal(got), b) {
			t.Error("what is opened wasn't sealed")
		}
		sealed := Seal(b)
		if got, ok := Open(sealed); !ok || !bytes.Equal(got, b) || Sum(sealed) != 0 {
			t.Error("what is sealed isn't opened")
		}
		turn(sealed, int(uint(bit)%uint(8*len(sealed))))
		if got, ok := Open(sealed); ok || len(got) != 0 {
			t.Error("a turned bit is opened")
		}
	})
}
