package disk

import (
	"bytes"
	"math"
	"testing"

	"concordat/api"
)

func made(t *testing.T, sectors int) *Disk {
	t.Helper()
	d, err := New(sectors)
	if err != api.OK || d == nil {
		t.Fatalf("New(%d) is %v, %v", sectors, d, err)
	}
	return d
}

func full(x byte) []byte {
	return bytes.Repeat([]byte{x}, 32)
}

// steps: 32 bytes that all differ, so that each place of a tear shows.
func steps(from byte) []byte {
	out := make([]byte, 32)
	for i := range out {
		out[i] = from + byte(i)
	}
	return out
}

// torn: the first n bytes of one, and the others of another.
func torn(one []byte, n int, other []byte) []byte {
	return append(bytes.Clone(one[:n]), other[n:]...)
}

func put(t *testing.T, d *Disk, at int, b []byte) {
	t.Helper()
	if err := d.Write(at, b); err != api.OK {
		t.Fatalf("Write(%d, %v) is %v", at, b, err)
	}
}

func wantSector(t *testing.T, d *Disk, at int, want []byte) {
	t.Helper()
	got, err := d.Read(at)
	if err != api.OK || !bytes.Equal(got, want) {
		t.Errorf("Read(%d) is %v, %v, not %v", at, got, err, want)
	}
}

func wantImage(t *testing.T, d *Disk, want ...[]byte) {
	t.Helper()
	if got := d.Image(); !bytes.Equal(got, bytes.Join(want, nil)) {
		t.Errorf("Image is %v, not %v", got, want)
	}
}

func wantLoose(t *testing.T, d *Disk, want int) {
	t.Helper()
	if got := d.Loose(); got != want {
		t.Errorf("Loose is %d, not %d", got, want)
	}
}

// model: a disk as all the bytes that last, and the list of writes behind them; whatever is asked is worked out anew from these.
type model struct {
	lasts  []byte
	writes []modelWrite
}

type modelWrite struct {
	at    int
	bytes []byte
}

func newModel(sectors int) *model {
	return &model{lasts: make([]byte, 32*sectors)}
}

// behind: all bytes behind the first n writes.
func (m *model) behind(n int) []byte {
	out := bytes.Clone(m.lasts)
	for _, w := range m.writes[:n] {
		for i, x := range w.bytes {
			out[32*w.at+i] = x
		}
	}
	return out
}

func (m *model) crash(keep, tear int) {
	if keep < 0 {
		keep = 0
	}
	if keep > len(m.writes) {
		keep = len(m.writes)
	}
	out := m.behind(keep)
	if keep < len(m.writes) {
		w := m.writes[keep]
		for i := 0; i < 31 && i < tear; i++ {
			out[32*w.at+i] = w.bytes[i]
		}
	}
	m.lasts, m.writes = out, nil
}

func sameAsModel(t *testing.T, d *Disk, m *model) {
	t.Helper()
	wantLoose(t, d, len(m.writes))
	wantImage(t, d, m.lasts)
	now := m.behind(len(m.writes))
	if d.Sectors() != len(now)/32 {
		t.Fatalf("Sectors is %d, not %d", d.Sectors(), len(now)/32)
	}
	for at := range d.Sectors() {
		wantSector(t, d, at, now[32*at:32*at+32])
	}
}

func edgeNumbers() []int {
	return []int{
		math.MinInt, math.MinInt + 1, -1 << 32, -513, -33, -32, -31, -2, -1, 0, 1, 2, 3, 30, 31, 32, 33,
		511, 512, 513, 1 << 31, 1 << 32, 1<<32 + 1, 1 << 58, 1 << 59, math.MaxInt - 1, math.MaxInt,
	}
}

// P3.1

func TestNew(t *testing.T) {
	for _, n := range []int{1, 2, 31, 32, 33, 511, 512} {
		d := made(t, n)
		if d.Sectors() != n {
			t.Errorf("a disk of %d sectors has %d", n, d.Sectors())
		}
		wantLoose(t, d, 0)
		wantImage(t, d, make([]byte, 32*n))
		for at := range n {
			wantSector(t, d, at, full(0))
		}
	}
}

func TestNewOfAWrongNumber(t *testing.T) {
	for _, n := range []int{0, -1, -2, -512, 513, 514, 1024, 1 << 32, 1<<32 + 1, 1 << 59, math.MinInt, math.MinInt + 1, math.MaxInt} {
		if d, err := New(n); d != nil || err != api.ErrRange {
			t.Errorf("New(%d) is %v, %v", n, d, err)
		}
	}
}

func TestReadAndWrite(t *testing.T) {
	for _, n := range []int{1, 2, 7, 512} {
		d := made(t, n)
		for at := range n {
			put(t, d, at, steps(byte(at)))
			wantLoose(t, d, at+1)
		}
		for at := range n {
			wantSector(t, d, at, steps(byte(at)))
			wantSector(t, d, at, steps(byte(at)))
		}
		wantLoose(t, d, n)
		put(t, d, n-1, full(200))
		wantSector(t, d, n-1, full(200))
		if n > 1 {
			wantSector(t, d, 0, steps(0))
			wantSector(t, d, n-2, steps(byte(n-2)))
		}
	}
}

func TestASectorWrittenAgain(t *testing.T) {
	d := made(t, 3)
	put(t, d, 1, full(1))
	put(t, d, 1, steps(2))
	wantSector(t, d, 1, steps(2))
	put(t, d, 1, full(0))
	wantSector(t, d, 1, full(0))
	put(t, d, 1, full(0))
	wantLoose(t, d, 4)
	wantSector(t, d, 0, full(0))
	wantSector(t, d, 2, full(0))
	d.Flush()
	put(t, d, 1, full(7))
	wantSector(t, d, 1, full(7))
	d.Flush()
	put(t, d, 1, full(0))
	wantSector(t, d, 1, full(0))
}

func wrongPlaces(sectors int) []int {
	return []int{
		-1, -2, -sectors, sectors, sectors + 1, 512, 513, 1 << 32, 1<<32 + sectors - 1, -1 << 32, 1 << 59, 1<<59 + 1,
		math.MinInt, math.MaxInt,
	}
}

func TestWrongPlaces(t *testing.T) {
	for _, n := range []int{1, 2, 512} {
		d := made(t, n)
		put(t, d, 0, full(1))
		d.Flush()
		put(t, d, n-1, full(2))
		for _, at := range wrongPlaces(n) {
			if got, err := d.Read(at); err != api.ErrRange || len(got) != 0 {
				t.Errorf("Read(%d) of %d sectors is %v, %v", at, n, got, err)
			}
			for _, b := range [][]byte{full(9), nil, {}, full(9)[:31], append(full(9), 9)} {
				if err := d.Write(at, b); err != api.ErrRange {
					t.Errorf("Write(%d) of %d sectors, with %d bytes, is %v", at, n, len(b), err)
				}
			}
		}
		wantLoose(t, d, 1)
		wantSector(t, d, n-1, full(2))
		want := make([]byte, 32*n)
		copy(want, full(1))
		wantImage(t, d, want)
	}
}

func TestWrongBytes(t *testing.T) {
	d := made(t, 2)
	put(t, d, 0, full(1))
	d.Flush()
	put(t, d, 0, full(2))
	for _, n := range []int{0, 1, 16, 30, 31, 33, 34, 63, 64, 96, 1000} {
		for at := range 2 {
			if err := d.Write(at, bytes.Repeat([]byte{9}, n)); err != api.ErrForm {
				t.Errorf("Write(%d) of %d bytes is %v", at, n, err)
			}
		}
	}
	for at := range 2 {
		if err := d.Write(at, nil); err != api.ErrForm {
			t.Errorf("Write(%d, nil) is %v", at, err)
		}
		if err := d.Write(at, full(9)[:31]); err != api.ErrForm {
			t.Errorf("Write(%d) of 31 bytes with room for one more is %v", at, err)
		}
	}
	wantLoose(t, d, 1)
	wantSector(t, d, 0, full(2))
	wantSector(t, d, 1, full(0))
	d.Flush()
	wantImage(t, d, full(2), full(0))
}

// P3.2

func TestFlush(t *testing.T) {
	d := made(t, 3)
	d.Flush()
	wantLoose(t, d, 0)
	wantImage(t, d, make([]byte, 96))
	put(t, d, 2, steps(1))
	put(t, d, 0, steps(100))
	put(t, d, 2, steps(60))
	d.Flush()
	wantLoose(t, d, 0)
	wantImage(t, d, steps(100), full(0), steps(60))
	wantSector(t, d, 0, steps(100))
	wantSector(t, d, 2, steps(60))
	d.Flush()
	wantImage(t, d, steps(100), full(0), steps(60))
	for _, keep := range edgeNumbers() {
		for _, tear := range edgeNumbers() {
			d.Crash(keep, tear)
			wantImage(t, d, steps(100), full(0), steps(60))
			wantLoose(t, d, 0)
		}
	}
	wantSector(t, d, 2, steps(60))
}

func TestLooseCountsEachWrite(t *testing.T) {
	d := made(t, 2)
	for i := range 1000 {
		put(t, d, i/700, full(byte(i)))
		wantLoose(t, d, i+1)
		d.Read(0)
		d.Image()
		wantLoose(t, d, i+1)
	}
	d.Flush()
	wantLoose(t, d, 0)
	put(t, d, 1, full(1))
	wantLoose(t, d, 1)
	d.Crash(0, 0)
	wantLoose(t, d, 0)
}

func TestImageIsWhatACrashWouldLeave(t *testing.T) {
	d := made(t, 2)
	put(t, d, 0, steps(1))
	put(t, d, 1, steps(2))
	wantImage(t, d, full(0), full(0))
	wantSector(t, d, 0, steps(1))
	d.Flush()
	wantImage(t, d, steps(1), steps(2))
	put(t, d, 1, steps(3))
	put(t, d, 1, steps(4))
	wantImage(t, d, steps(1), steps(2))
	wantLoose(t, d, 2)
	wantSector(t, d, 1, steps(4))
	before := d.Image()
	d.Crash(0, 0)
	wantImage(t, d, before)
	wantSector(t, d, 1, steps(2))
}

func TestImageOfTheGreatestDisk(t *testing.T) {
	d := made(t, 512)
	var want []byte
	for at := range 512 {
		put(t, d, at, steps(byte(at*7)))
		want = append(want, steps(byte(at*7))...)
	}
	wantImage(t, d, make([]byte, 512*32))
	d.Flush()
	wantImage(t, d, want)
}

// P3.3

func TestCrashOfTheExample(t *testing.T) {
	d := made(t, 2)
	put(t, d, 0, steps(1))
	put(t, d, 1, steps(100))
	d.Crash(1, 3)
	wantSector(t, d, 0, steps(1))
	wantSector(t, d, 1, torn(steps(100), 3, full(0)))
	wantImage(t, d, steps(1), torn(steps(100), 3, full(0)))
	wantLoose(t, d, 0)
}

func TestCrashWithNothingInTheCache(t *testing.T) {
	d := made(t, 1)
	for _, has := range [][]byte{full(0), steps(9)} {
		if has[0] != 0 {
			put(t, d, 0, has)
			d.Flush()
		}
		for _, keep := range edgeNumbers() {
			for _, tear := range edgeNumbers() {
				d.Crash(keep, tear)
				wantImage(t, d, has)
				wantSector(t, d, 0, has)
				wantLoose(t, d, 0)
			}
		}
	}
}

// tornBytes: how many bytes of the next write take the sector's place.
func tornBytes(tear int) int {
	switch {
	case tear < 0:
		return 0
	case tear > 31:
		return 31
	}
	return tear
}

func TestCrashTears(t *testing.T) {
	for _, tear := range append(edgeNumbers(), 4, 5, 8, 15, 16, 17, 24, 29) {
		d := made(t, 2)
		put(t, d, 1, steps(1))
		d.Flush()
		put(t, d, 1, steps(150))
		put(t, d, 0, steps(200))
		d.Crash(0, tear)
		wantImage(t, d, full(0), torn(steps(150), tornBytes(tear), steps(1)))
		wantSector(t, d, 0, full(0))
		wantSector(t, d, 1, torn(steps(150), tornBytes(tear), steps(1)))
		wantLoose(t, d, 0)
	}
}

func TestCrashKeeps(t *testing.T) {
	for _, keep := range edgeNumbers() {
		for _, tear := range []int{-1, 0, 7, 31, 32} {
			d, m := made(t, 3), newModel(3)
			for i, at := range []int{2, 0, 2, 1, 0} {
				b := steps(byte(40 * (i + 1)))
				put(t, d, at, b)
				m.writes = append(m.writes, modelWrite{at, b})
			}
			d.Crash(keep, tear)
			m.crash(keep, tear)
			sameAsModel(t, d, m)
		}
	}
}

func TestCrashKeepsAllOrMore(t *testing.T) {
	for _, keep := range []int{2, 3, 100, math.MaxInt} {
		d := made(t, 2)
		put(t, d, 0, steps(1))
		put(t, d, 1, steps(2))
		d.Crash(keep, 5)
		wantImage(t, d, steps(1), steps(2))
		wantLoose(t, d, 0)
	}
}

func TestCrashKeepsNone(t *testing.T) {
	for _, keep := range []int{0, -1, -2, math.MinInt} {
		d := made(t, 2)
		put(t, d, 0, steps(1))
		put(t, d, 1, steps(2))
		d.Crash(keep, 0)
		wantImage(t, d, full(0), full(0))
		wantSector(t, d, 0, full(0))
		wantSector(t, d, 1, full(0))
		wantLoose(t, d, 0)
	}
}

// A torn write falls on what the kept ones of the same sector have left, not on what lasted ahead of them.
func TestCrashTearsASectorThatWasKept(t *testing.T) {
	d := made(t, 1)
	put(t, d, 0, steps(1))
	d.Flush()
	put(t, d, 0, steps(80))
	put(t, d, 0, steps(160))
	put(t, d, 0, steps(220))
	d.Crash(1, 10)
	wantSector(t, d, 0, torn(steps(160), 10, steps(80)))
}

func TestCrashOnceAndAgain(t *testing.T) {
	d := made(t, 2)
	put(t, d, 0, steps(1))
	d.Crash(0, 20)
	first := torn(steps(1), 20, full(0))
	wantImage(t, d, first, full(0))
	d.Crash(5, 31)
	wantImage(t, d, first, full(0))
	put(t, d, 0, steps(90))
	d.Crash(0, 4)
	second := torn(steps(90), 4, first)
	wantImage(t, d, second, full(0))
	put(t, d, 1, steps(50))
	wantSector(t, d, 0, second)
	wantSector(t, d, 1, steps(50))
	wantLoose(t, d, 1)
	d.Flush()
	wantImage(t, d, second, steps(50))
}

// P3.4

func fill(b []byte) {
	b = b[:cap(b)]
	for i := range b {
		b[i] = ^b[i]
	}
}

func TestWhatIsHandedInIsNeitherChangedNorKept(t *testing.T) {
	d := made(t, 2)
	whole := append(steps(1), 7, 7, 7)
	part := whole[:32]
	put(t, d, 0, part)
	put(t, d, 0, part)
	d.Write(1, whole)
	d.Write(-1, part)
	d.Read(0)
	if !bytes.Equal(whole, append(steps(1), 7, 7, 7)) {
		t.Errorf("what was handed in is changed: %v", whole)
	}
	fill(part)
	wantSector(t, d, 0, steps(1))
	changed := bytes.Clone(whole)
	d.Crash(1, 9)
	wantImage(t, d, steps(1), full(0))
	put(t, d, 1, steps(3))
	d.Flush()
	d.Crash(0, 0)
	if !bytes.Equal(whole, changed) {
		t.Errorf("what was handed in is changed later: %v", whole)
	}
}

func TestBytesChangedBehindAWriteDoNotLast(t *testing.T) {
	for _, end := range []func(*Disk){
		(*Disk).Flush, func(d *Disk) { d.Crash(1, 0) }, func(d *Disk) { d.Crash(9, 9) },
	} {
		d := made(t, 1)
		own := steps(1)
		put(t, d, 0, own)
		fill(own)
		end(d)
		fill(own)
		wantImage(t, d, steps(1))
		wantSector(t, d, 0, steps(1))
	}
	d := made(t, 1)
	own := steps(1)
	put(t, d, 0, own)
	fill(own)
	d.Crash(0, 31)
	wantImage(t, d, torn(steps(1), 31, full(0)))
}

func TestWhatIsReadIsNew(t *testing.T) {
	d := made(t, 2)
	put(t, d, 0, steps(1))
	d.Flush()
	put(t, d, 1, steps(2))
	for at := range 2 {
		want := steps(byte(at + 1))
		one, _ := d.Read(at)
		other, _ := d.Read(at)
		fill(one)
		if !bytes.Equal(other, want) {
			t.Errorf("two answers of Read(%d) share memory", at)
		}
		wantSector(t, d, at, want)
		wantImage(t, d, steps(1), full(0))
	}
	lasting, _ := d.Read(0)
	cached, _ := d.Read(1)
	put(t, d, 0, steps(70))
	put(t, d, 1, steps(80))
	d.Flush()
	if !bytes.Equal(lasting, steps(1)) || !bytes.Equal(cached, steps(2)) {
		t.Error("what was read changes with the disk")
	}
	fill(cached)
	wantImage(t, d, steps(70), steps(80))
}

func TestWhatIsReadFromTheCacheIsNotWhatLasts(t *testing.T) {
	for _, end := range []func(*Disk){(*Disk).Flush, func(d *Disk) { d.Crash(1, 0) }} {
		d := made(t, 1)
		put(t, d, 0, steps(1))
		got, _ := d.Read(0)
		fill(got)
		end(d)
		wantImage(t, d, steps(1))
	}
	d := made(t, 1)
	put(t, d, 0, steps(1))
	got, _ := d.Read(0)
	fill(got)
	d.Crash(0, 31)
	wantImage(t, d, torn(steps(1), 31, full(0)))
}

func TestAnImageIsNew(t *testing.T) {
	d := made(t, 2)
	put(t, d, 0, steps(1))
	d.Flush()
	one, other := d.Image(), d.Image()
	fill(one)
	if !bytes.Equal(other, append(steps(1), full(0)...)) {
		t.Error("two images share memory")
	}
	wantSector(t, d, 0, steps(1))
	wantImage(t, d, steps(1), full(0))
	put(t, d, 1, steps(5))
	d.Flush()
	if !bytes.Equal(other, append(steps(1), full(0)...)) {
		t.Error("an image changes with the disk")
	}
}

func TestDisksAreApart(t *testing.T) {
	one, other := made(t, 2), made(t, 2)
	put(t, one, 0, steps(1))
	put(t, one, 1, steps(2))
	wantLoose(t, other, 0)
	wantSector(t, other, 0, full(0))
	put(t, other, 1, steps(3))
	one.Flush()
	wantImage(t, other, full(0), full(0))
	wantLoose(t, other, 1)
	other.Crash(1, 0)
	wantImage(t, one, steps(1), steps(2))
	wantImage(t, other, full(0), steps(3))
}

// P1, and all promises together

func TestNoCallPanics(t *testing.T) {
	for _, n := range edgeNumbers() {
		d, err := New(n)
		if err != api.OK {
			continue
		}
		for _, one := range edgeNumbers() {
			for _, b := range [][]byte{nil, {}, full(1), full(1)[:31], append(full(1), 1), make([]byte, 100000)} {
				d.Write(one, b)
			}
			d.Read(one)
			for _, other := range edgeNumbers() {
				d.Write(0, full(2))
				d.Crash(one, other)
			}
		}
		d.Write(0, full(1))
		d.Flush()
		d.Loose()
		d.Image()
		d.Sectors()
	}
}

// play does to a disk and to its model what bytes say, and holds one against the other.
func play(t *testing.T, sectors int, script []byte) {
	t.Helper()
	d, m := made(t, sectors), newModel(sectors)
	for len(script) >= 3 {
		what, x, y := script[0], int(script[1]), int(script[2])
		script = script[3:]
		switch what % 8 {
		case 0:
			d.Flush()
			m.crash(len(m.writes), 0)
		case 1:
			keep, tear := x%20-2, y%36-2
			d.Crash(keep, tear)
			m.crash(keep, tear)
		case 2:
			if d.Write(x%3-3, full(1)) != api.ErrRange || d.Write(sectors+x, full(1)) != api.ErrRange || d.Write(x%sectors, make([]byte, 33+y)) != api.ErrForm {
				t.Fatal("a wrong write is taken")
			}
		default:
			at, b := x%sectors, steps(byte(y))
			put(t, d, at, b)
			m.writes = append(m.writes, modelWrite{at, b})
		}
		sameAsModel(t, d, m)
	}
}

func TestAgainstAModel(t *testing.T) {
	x := uint32(1)
	for sectors := 1; sectors <= 6; sectors++ {
		for range 60 {
			script := make([]byte, 120)
			for i := range script {
				x = x*1664525 + 1013904223
				script[i] = byte(x >> 24)
			}
			play(t, sectors, script)
		}
	}
}

func FuzzDisk(f *testing.F) {
	f.Add(3, []byte{3, 0, 1, 4, 1, 2, 1, 3, 5, 3, 0, 9, 0, 0, 0})
	f.Add(512, []byte{3, 255, 255, 3, 1, 2, 2, 7, 7, 1, 2, 33})
	f.Fuzz(func(t *testing.T, sectors int, script []byte) {
		play(t, int(uint(sectors)%512)+1, script[:min(len(script), 90)])
	})
}
