package wal

import (
	"bytes"
	"encoding/binary"
	"math"
	"math/rand"
	"slices"
	"testing"

	"concordat/api"
	"concordat/disk"
	"concordat/rec"
)

func commit(tx int) api.Rec {
	return api.Rec{Kind: api.RCommit, Tx: tx}
}

func commits(txs ...int) []api.Rec {
	var list []api.Rec
	for _, tx := range txs {
		list = append(list, commit(tx))
	}
	return list
}

// sized: a write that has so many bytes, of 9 to 24.
func sized(t testing.TB, tx, size int) api.Rec {
	t.Helper()
	r := api.Rec{Kind: api.RWrite, Tx: tx, Key: api.Key{'k'}}
	if size > 16 {
		r.Old = api.Val{There: true, N: math.MinInt >> (64 - 8*(size-16))}
		r.New = api.Val{There: true, N: math.MinInt}
	} else {
		r.New = api.Val{There: true, N: math.MinInt >> (64 - 8*(size-8))}
	}
	if b, ok := rec.Encode(r); !ok || len(b) != size {
		t.Fatalf("a record has %d bytes, %v, not %d", len(b), ok, size)
	}
	return r
}

func rightRecords() []api.Rec {
	return []api.Rec{
		commit(1),
		commit(api.MaxTx),
		{Kind: api.RAbort, Tx: 3},
		{Kind: api.REnd, Tx: 4},
		{Kind: api.RRead, Tx: 5},
		{Kind: api.RYes, Tx: 6, Mask: 0xFFFF},
		{Kind: api.RStart, Mask: 64},
		{Kind: api.RWrite, Tx: 7},
		{Kind: api.RWrite, Tx: 8, Key: api.Key{255, 255, 255, 255}, Old: api.Val{There: true, N: math.MinInt}, New: api.Val{There: true, N: math.MaxInt}},
		{Kind: api.RBase, Key: api.Key{1, 2, 3, 4}, New: api.Val{There: true, N: -1}},
	}
}

func wrongRecords() []api.Rec {
	return []api.Rec{
		{},
		{Kind: 9, Tx: 1},
		{Kind: -1, Tx: 1},
		{Kind: math.MinInt, Tx: math.MaxInt},
		commit(0),
		commit(-1),
		commit(api.MaxTx + 1),
		{Kind: api.RYes, Tx: 1},
		{Kind: api.RStart, Mask: 65},
		{Kind: api.RBase},
		{Kind: api.RWrite, Tx: 1, New: api.Val{N: 1}},
		{Kind: api.RCommit, Tx: 1, Key: api.Key{1}},
	}
}

func made(t testing.TB, sectors int) *disk.Disk {
	t.Helper()
	d, err := disk.New(sectors)
	if err != api.OK {
		t.Fatalf("New(%d) is %v", sectors, err)
	}
	return d
}

func opened(t testing.TB, d *disk.Disk) (*Log, []api.Rec) {
	t.Helper()
	l, list, err := Open(d)
	if err != api.OK || l == nil {
		t.Fatalf("Open is %v, %v, %v", l, list, err)
	}
	return l, list
}

func fresh(t testing.TB, sectors int) (*disk.Disk, *Log) {
	t.Helper()
	d := made(t, sectors)
	l, _ := opened(t, d)
	return d, l
}

func add(t testing.TB, l *Log, list ...api.Rec) {
	t.Helper()
	if err := l.Append(list, 0); err != api.OK {
		t.Fatalf("Append(%v, 0) is %v with %d free", list, err, l.Free())
	}
}

func checkpoint(t testing.TB, l *Log, list ...api.Rec) {
	t.Helper()
	if err := l.Checkpoint(list, 0); err != api.OK {
		t.Fatalf("Checkpoint(%v, 0) is %v with %d free", list, err, l.Free())
	}
}

func wantLog(t testing.TB, l *Log, next, first, free int) {
	t.Helper()
	if l.Next() != next || l.First() != first || l.Free() != free {
		t.Errorf("Next, First and Free are %d, %d, %d, not %d, %d, %d", l.Next(), l.First(), l.Free(), next, first, free)
	}
}

func wantTold(t testing.TB, d *disk.Disk, next, first int, want ...api.Rec) {
	t.Helper()
	l, list := opened(t, d)
	if !slices.Equal(list, want) {
		t.Errorf("Open tells %v, not %v", list, want)
	}
	wantLog(t, l, next, first, d.Sectors()-next+first)
}

func wantCorrupt(t testing.TB, d *disk.Disk) {
	t.Helper()
	if l, list, err := Open(d); l != nil || len(list) != 0 || err != api.ErrCorrupt {
		t.Errorf("Open is %v, %v, %v of a disk that tells none", l, list, err)
	}
}

// now: what a disk has, the cache's writes too.
func now(d *disk.Disk) []byte {
	var all []byte
	for at := range d.Sectors() {
		b, _ := d.Read(at)
		all = append(all, b...)
	}
	return all
}

// hand is a sector that was written by hand, right or wrong.
type hand struct {
	number, first uint32
	count         byte
	room          []byte
}

func (h hand) bytes() []byte {
	b := make([]byte, 32)
	binary.LittleEndian.PutUint32(b, h.number)
	binary.LittleEndian.PutUint32(b[4:], h.first)
	b[8] = h.count
	copy(b[9:25], h.room)
	s := divided(b[:25])
	b[25], b[26], b[27] = byte(s>>16), byte(s>>8), byte(s)
	binary.LittleEndian.PutUint32(b[28:], h.number)
	return b
}

// divided: the sum of 24 bits, bit by bit.
func divided(b []byte) uint32 {
	s := uint32(0xB704CE)
	for i := range 8 * len(b) {
		in := uint32(b[i/8]>>(7-i%8)) & 1
		out := s >> 23 & 1
		s = s << 1 & 0xFFFFFF
		if in != out {
			s ^= 0x864CFB
		}
	}
	return s
}

func put(t testing.TB, d *disk.Disk, at int, b []byte) {
	t.Helper()
	if err := d.Write(at, b); err != api.OK {
		t.Fatalf("Write(%d) is %v", at, err)
	}
}

// handWritten: a disk with sectors, each where its number belongs.
func handWritten(t testing.TB, sectors int, list ...hand) *disk.Disk {
	t.Helper()
	d := made(t, sectors)
	for _, h := range list {
		put(t, d, int(h.number-1)%sectors, h.bytes())
	}
	d.Flush()
	return d
}

// tells is what a disk tells, worked out from all its bytes at once.
type tells struct {
	corrupt     bool
	next, first int
	list        []api.Rec
}

func toldBy(d *disk.Disk) tells {
	all := now(d)
	n := len(all) / 32
	found := map[int][]byte{}
	last := 0
	for at := range n {
		b := all[32*at : 32*at+32]
		number := int(binary.LittleEndian.Uint32(b))
		size := int(b[8] % 128)
		sealed := uint32(b[25])<<16 | uint32(b[26])<<8 | uint32(b[27])
		switch {
		case number == 0, (number-1)%n != at:
		case !bytes.Equal(b[:4], b[28:]):
		case size > 16, len(bytes.Trim(b[9+min(size, 16):25], "\x00")) > 0:
		case sealed != divided(b[:25]):
		default:
			found[number] = b
			last = max(last, number)
		}
	}
	if last == 0 {
		return tells{next: 1, first: 1}
	}
	first := int(binary.LittleEndian.Uint32(found[last][4:]))
	if first == 0 || first > last || last-first >= n {
		return tells{corrupt: true}
	}
	var list []api.Rec
	var row []byte
	// Backwards: a row's records come ahead of those that are told already.
	for number := last; number >= first; number-- {
		b, ok := found[number]
		if !ok {
			return tells{corrupt: true}
		}
		row = append(bytes.Clone(b[9:9+b[8]%128]), row...)
		if b[8] < 128 && number != first {
			continue
		}
		records, left := decoded(row)
		if left > 23 {
			return tells{corrupt: true}
		}
		list = append(records, list...)
		row = nil
	}
	return tells{next: last + 1, first: first, list: list}
}

func decoded(b []byte) ([]api.Rec, int) {
	var list []api.Rec
	for {
		r, n := rec.Decode(b)
		if n == 0 {
			return list, len(b)
		}
		list = append(list, r)
		b = b[n:]
	}
}

func sameAsItsBytes(t testing.TB, d *disk.Disk) {
	t.Helper()
	want := toldBy(d)
	if want.corrupt {
		wantCorrupt(t, d)
		return
	}
	wantTold(t, d, want.next, want.first, want.list...)
}

func edgeNumbers() []int {
	return []int{math.MinInt, math.MinInt + 1, math.MinInt32, -513, -2, -1, 0, 1, 2, 3, 4, 16, 31, 32, 511, 512, 513, math.MaxInt32, math.MaxUint32, 1 << 32, math.MaxInt - 1, math.MaxInt}
}

// P5.1

func TestAnEmptyLog(t *testing.T) {
	for _, n := range []int{1, 2, 3, 6, 511, 512} {
		d := made(t, n)
		l, list := opened(t, d)
		if len(list) != 0 || d.Loose() != 0 {
			t.Errorf("Open of %d fresh sectors tells %v, with %d writes", n, list, d.Loose())
		}
		wantLog(t, l, 1, 1, n)
	}
}

func TestSectors(t *testing.T) {
	for _, c := range []struct {
		sizes []int
		want  int
	}{
		{nil, 0},
		{[]int{9}, 1},
		{[]int{15}, 1},
		{[]int{16}, 1},
		{[]int{17}, 2},
		{[]int{24}, 2},
		{[]int{16, 16}, 2},
		{[]int{9, 23}, 2},
		{[]int{16, 17}, 3},
		{[]int{24, 24}, 3},
		{[]int{24, 24, 9}, 4},
	} {
		var list []api.Rec
		for i, size := range c.sizes {
			list = append(list, sized(t, i+1, size))
		}
		if got := Sectors(list); got != c.want {
			t.Errorf("Sectors of records of %v bytes is %d, not %d", c.sizes, got, c.want)
		}
	}
	if got := Sectors([]api.Rec{}); got != 0 {
		t.Errorf("Sectors of no records is %d", got)
	}
	for n := range 100 {
		if got, want := Sectors(slices.Repeat(commits(1), n)), int(math.Ceil(float64(3*n)/16)); got != want {
			t.Errorf("Sectors of %d commits is %d, not %d", n, got, want)
		}
	}
}

func TestSectorsOfWrongRecords(t *testing.T) {
	for _, wrong := range wrongRecords() {
		for _, list := range [][]api.Rec{{wrong}, {wrong, commit(1)}, {commit(1), wrong}, {commit(1), wrong, commit(2)}} {
			if got := Sectors(list); got != -1 {
				t.Errorf("Sectors(%v) is %d", list, got)
			}
		}
	}
}

func TestOpenOfSectorsByHand(t *testing.T) {
	three := []byte{11, 0, 0} // a commit of 1
	d := handWritten(t, 4,
		hand{1, 1, 128 + 3, three},
		hand{2, 1, 128 + 6, []byte{19, 0, 0, 27, 0, 0}},
		hand{3, 1, 128, nil},
	)
	wantTold(t, d, 4, 1, commits(1, 2, 3)...)

	// The last one's word counts alone, whatever those ahead of it tell.
	d = handWritten(t, 4, hand{1, 7, 128 + 3, three}, hand{2, 0, 3, three}, hand{3, 2, 3, three})
	wantTold(t, d, 4, 2, commits(1, 1)...)

	// The greatest number is the last, wherever it stands.
	d = handWritten(t, 4, hand{5, 3, 128 + 3, []byte{11, 0, 0}}, hand{2, 2, 128 + 3, []byte{19, 0, 0}}, hand{3, 3, 128 + 3, []byte{27, 0, 0}}, hand{4, 3, 128 + 3, []byte{35, 0, 0}})
	wantTold(t, d, 6, 3, commits(3, 4, 1)...)
}

func TestRowsByHand(t *testing.T) {
	b, _ := rec.Join([]api.Rec{sized(t, 1, 24)})
	whole := []api.Rec{sized(t, 1, 24)}
	for _, c := range []struct {
		name  string
		flags [2]byte
		want  []api.Rec
	}{
		{"one row", [2]byte{128, 0}, whole},
		{"the first begins in any case", [2]byte{0, 0}, whole},
		{"the second begins", [2]byte{128, 128}, nil},
		{"only the second begins", [2]byte{0, 128}, nil},
	} {
		d := handWritten(t, 5, hand{1, 1, c.flags[0] + 16, b[:16]}, hand{2, 1, c.flags[1] + 8, b[16:]})
		t.Run(c.name, func(t *testing.T) { wantTold(t, d, 3, 1, c.want...) })
	}

	// A row whose sectors aren't full: the bytes stand one behind the other all the same.
	d := handWritten(t, 5, hand{1, 1, 128 + 10, b[:10]}, hand{2, 1, 0, nil}, hand{3, 1, 1, b[10:11]}, hand{4, 1, 13, b[11:]})
	wantTold(t, d, 5, 1, whole...)
}

func TestWhatIsLeftOfARow(t *testing.T) {
	bad := bytes.Repeat([]byte{255}, 16) // no record begins so
	three := []byte{11, 0, 0}
	good := hand{3, 1, 128 + 3, three}
	for _, c := range []struct {
		name string
		list []hand
		want []api.Rec
		ok   bool
	}{
		{"23 bytes", []hand{{1, 1, 128 + 16, bad}, {2, 1, 7, bad[:7]}}, nil, true},
		{"24 bytes", []hand{{1, 1, 128 + 16, bad}, {2, 1, 8, bad[:8]}}, nil, false},
		{"23 bytes, and a row behind", []hand{{1, 1, 128 + 16, bad}, {2, 1, 7, bad[:7]}, good}, commits(1), true},
		{"24 bytes, and a row behind", []hand{{1, 1, 128 + 16, bad}, {2, 1, 8, bad[:8]}, good}, nil, false},
		{"a record and 23 bytes", []hand{{1, 1, 128 + 3, three}, {2, 1, 16, bad}, {3, 1, 7, bad[:7]}}, commits(1), true},
		{"a record and 24 bytes", []hand{{1, 1, 128 + 3, three}, {2, 1, 16, bad}, {3, 1, 8, bad[:8]}}, nil, false},
		{"a record behind what is left", []hand{{1, 1, 128 + 16, bad}, {2, 1, 3, three}, {3, 1, 3, three}}, nil, true},
		{"more than 23 in two rows", []hand{{1, 1, 128 + 16, bad}, {2, 1, 128 + 16, bad}, good}, commits(1), true},
		{"24 bytes of which the first don't count", []hand{{1, 1, 128 + 16, bad}, {2, 2, 8, bad[:8]}}, nil, true},
	} {
		d := handWritten(t, 6, c.list...)
		t.Run(c.name, func(t *testing.T) {
			if !c.ok {
				wantCorrupt(t, d)
				return
			}
			last := c.list[len(c.list)-1]
			wantTold(t, d, int(last.number)+1, int(last.first), c.want...)
		})
	}
}

func TestBytesThatAreNoLogsSector(t *testing.T) {
	three := []byte{11, 0, 0}
	good := hand{2, 2, 128 + 3, three}.bytes()
	other := func(at int, x byte) []byte {
		b := bytes.Clone(good)
		b[at] ^= x
		return b
	}
	long := bytes.Repeat(three, 6)[:16]
	for _, c := range []struct {
		name string
		at   int
		b    []byte
	}{
		{"a wrong sum", 1, other(25, 1)},
		{"a wrong sum's last byte", 1, other(27, 128)},
		{"a byte that isn't summed", 1, other(9, 1)},
		{"two numbers that differ", 1, other(28, 4)},
		{"two numbers that differ in their highest byte", 1, other(31, 1)},
		{"a place that isn't its own", 0, good},
		{"another place that isn't its own", 3, good},
		{"the number 0", 3, hand{0, 0, 128 + 3, three}.bytes()},
		{"the number 0, with a first", 3, hand{0, 1, 128 + 3, three}.bytes()},
		{"17 bytes", 1, hand{2, 2, 17, long}.bytes()},
		{"17 bytes, and it begins", 1, hand{2, 2, 128 + 17, long}.bytes()},
		{"127 bytes, and it begins", 1, hand{2, 2, 255, long}.bytes()},
		{"32 bytes", 1, hand{2, 2, 32, long}.bytes()},
		{"a byte behind its own", 1, hand{2, 2, 128 + 3, []byte{11, 0, 0, 1}}.bytes()},
		{"a last byte behind its own", 1, hand{2, 2, 128 + 3, []byte{0: 11, 15: 7}}.bytes()},
		{"a byte behind none", 1, hand{2, 2, 128, []byte{11}}.bytes()},
	} {
		d := made(t, 4)
		put(t, d, c.at, c.b)
		t.Run(c.name+", alone", func(t *testing.T) { wantTold(t, d, 1, 1) })

		// As a last one it is as if it weren't there; between two it is missing.
		put(t, d, 0, hand{1, 1, 128 + 3, []byte{19, 0, 0}}.bytes())
		put(t, d, 1, bytes.Repeat([]byte{0}, 32))
		if c.at == 1 {
			put(t, d, 1, c.b)
		}
		t.Run(c.name+", last", func(t *testing.T) { wantTold(t, d, 2, 1, commit(2)) })
		put(t, d, 2, hand{3, 1, 128 + 3, []byte{27, 0, 0}}.bytes())
		t.Run(c.name+", between", func(t *testing.T) { wantCorrupt(t, d) })
		put(t, d, 1, good)
		t.Run(c.name+", mended", func(t *testing.T) { wantTold(t, d, 4, 1, commits(2, 1, 3)...) })
	}
}

func TestTheFirstThatTheLastOneTells(t *testing.T) {
	three := []byte{11, 0, 0}
	at := func(number, first uint32) hand { return hand{number, first, 128 + 3, three} }
	for _, c := range []struct {
		name  string
		list  []hand
		first int // 0, if the disk tells none
	}{
		{"itself", []hand{at(5, 5)}, 5},
		{"0", []hand{at(1, 0)}, 0},
		{"0, behind others", []hand{at(1, 1), at(2, 1), at(3, 0)}, 0},
		{"one above", []hand{at(1, 2)}, 0},
		{"one above, behind others", []hand{at(1, 1), at(2, 3)}, 0},
		{"far above", []hand{at(1, math.MaxUint32)}, 0},
		{"as far back as the disk is long", []hand{at(2, 2), at(3, 2), at(4, 2), at(5, 2)}, 2},
		{"further back than the disk is long", []hand{at(2, 2), at(3, 2), at(4, 2), at(5, 1)}, 0},
		{"far back", []hand{at(4001, 1), at(4002, 1), at(4003, 1), at(4004, 1)}, 0},
		{"as far back as can be", []hand{at(math.MaxUint32, 1)}, 0},
		{"the first is missing", []hand{at(2, 1), at(3, 1)}, 0},
		{"one is missing between", []hand{at(1, 1), at(3, 1)}, 0},
		{"one of the round before stands there", []hand{at(1, 1), at(2, 2), at(4, 3), at(7, 5)}, 0},
		{"what is missing doesn't count", []hand{at(1, 1), at(3, 3)}, 3},
		{"one of the round before stands behind", []hand{at(4, 4), at(5, 4), at(2, 2), at(3, 2)}, 4},
	} {
		d := handWritten(t, 4, c.list...)
		t.Run(c.name, func(t *testing.T) {
			if c.first == 0 {
				wantCorrupt(t, d)
				return
			}
			last := 0
			for _, h := range c.list {
				last = max(last, int(h.number))
			}
			wantTold(t, d, last+1, c.first, slices.Repeat(commits(1), last-c.first+1)...)
		})
	}
}

func TestOpenOfADiskOfOneSectorByHand(t *testing.T) {
	three := []byte{11, 0, 0}
	for _, number := range []uint32{1, 2, 3, 1000, math.MaxUint32 - 1, math.MaxUint32} {
		d := handWritten(t, 1, hand{number, number, 3, three})
		wantTold(t, d, int(number)+1, int(number), commit(1))
		wantCorrupt(t, handWritten(t, 1, hand{number, number - 1, 3, three}))
		if number < math.MaxUint32 {
			wantCorrupt(t, handWritten(t, 1, hand{number, number + 1, 3, three}))
		}
	}
}

func TestTheNumber0OnADiskOfOneSector(t *testing.T) {
	for _, first := range []uint32{0, 1, math.MaxUint32} {
		d := made(t, 1)
		put(t, d, 0, hand{0, first, 128 + 3, []byte{11, 0, 0}}.bytes())
		wantTold(t, d, 1, 1)
	}
}

func TestOpenTwice(t *testing.T) {
	d, l := fresh(t, 6)
	add(t, l, commits(1, 2)...)
	l.Force()
	checkpoint(t, l, commit(3))
	before, loose := now(d), d.Loose()
	one, oneList := opened(t, d)
	two, twoList := opened(t, d)
	if one == two || !slices.Equal(oneList, twoList) || !slices.Equal(oneList, commits(3)) {
		t.Errorf("two Opens tell %v and %v", oneList, twoList)
	}
	wantLog(t, one, 4, 2, 4)
	wantLog(t, two, 4, 2, 4)
	wantLog(t, l, 4, 2, 3)
	if !bytes.Equal(now(d), before) || d.Loose() != loose {
		t.Error("an Open has changed the disk")
	}
}

func TestOpenTellsWhatStandsInTheCache(t *testing.T) {
	d, l := fresh(t, 3)
	add(t, l, commit(1))
	wantTold(t, d, 2, 1, commit(1))
	d.Crash(0, 0)
	wantTold(t, d, 1, 1)
}

func TestOpenOfRandomBytes(t *testing.T) {
	r := rand.New(rand.NewSource(5))
	for range 300 {
		d := made(t, 1+r.Intn(8))
		for at := range d.Sectors() {
			b := make([]byte, 32)
			r.Read(b)
			put(t, d, at, b)
		}
		wantTold(t, d, 1, 1)
	}
}

// randomHand: a sector that is a log's, or nearly so.
func randomHand(r *rand.Rand, at, sectors int) []byte {
	number := uint32(at + 1 + sectors*r.Intn(3))
	h := hand{number: number, first: uint32(max(0, int(number)-r.Intn(sectors+2)))}
	size := r.Intn(17)
	h.count = byte(size) | byte(r.Intn(2))<<7
	h.room = make([]byte, size)
	for i := range h.room {
		h.room[i] = byte(r.Intn(2)) * 11 * byte(i+1)
	}
	if r.Intn(2) == 0 {
		h.room = bytes.Repeat([]byte{11, 0, 0}, 6)[:size]
	}
	b := h.bytes()
	if r.Intn(10) == 0 {
		b[r.Intn(32)] ^= 1 << r.Intn(8)
	}
	return b
}

func TestOpenOfRandomSectors(t *testing.T) {
	r := rand.New(rand.NewSource(55))
	told := 0
	for range 20000 {
		d := made(t, 1+r.Intn(5))
		for at := range d.Sectors() {
			if r.Intn(5) > 0 {
				put(t, d, at, randomHand(r, at, d.Sectors()))
			}
		}
		sameAsItsBytes(t, d)
		if !toldBy(d).corrupt {
			told++
		}
	}
	if told < 1000 || told > 19000 {
		t.Errorf("%d of 20000 disks told a log: too few of one kind", told)
	}
}

func TestEachByteOfASectorCounts(t *testing.T) {
	h := hand{2, 1, 128 + 16, bytes.Repeat([]byte{11, 0, 0}, 6)[:16]}
	for at := range 32 {
		for x := range 256 {
			d := handWritten(t, 3, hand{1, 1, 128 + 3, []byte{19, 0, 0}})
			b := h.bytes()
			b[at] ^= byte(x)
			put(t, d, 1, b)
			if x == 0 {
				wantTold(t, d, 3, 1, commits(2, 1, 1, 1, 1, 1)...)
			} else {
				wantTold(t, d, 2, 1, commit(2))
			}
		}
	}
}

// P5.2

func TestTheChaptersExample(t *testing.T) {
	_, l := fresh(t, 4)
	add(t, l, commit(1))
	if l.Free() != 3 {
		t.Errorf("%d sectors are free, not 3", l.Free())
	}
}

func TestAppendWritesSectors(t *testing.T) {
	d, l := fresh(t, 5)
	add(t, l, commits(1, 2)...)
	list := []api.Rec{sized(t, 3, 24), sized(t, 4, 16)}
	b, _ := rec.Join(list)
	add(t, l, list...)
	want := slices.Concat(
		hand{1, 1, 128 + 6, []byte{11, 0, 0, 19, 0, 0}}.bytes(),
		hand{2, 1, 128 + 16, b[:16]}.bytes(),
		hand{3, 1, 16, b[16:32]}.bytes(),
		hand{4, 1, 8, b[32:]}.bytes(),
		make([]byte, 32),
	)
	if got := now(d); !bytes.Equal(got, want) {
		t.Errorf("the disk has %v, not %v", got, want)
	}
	if d.Loose() != 4 || !bytes.Equal(d.Image(), make([]byte, 5*32)) {
		t.Errorf("an Append has flushed: %d writes are loose", d.Loose())
	}
	wantLog(t, l, 5, 1, 1)
	l.Force()
	if d.Loose() != 0 || !bytes.Equal(d.Image(), want) {
		t.Errorf("a Force has left %d writes loose", d.Loose())
	}
	wantLog(t, l, 5, 1, 1)
	wantTold(t, d, 5, 1, append(commits(1, 2), list...)...)
}

func TestAppendsWritesComeInOrder(t *testing.T) {
	d, l := fresh(t, 6)
	add(t, l, sized(t, 1, 24), sized(t, 2, 24))
	for keep := range 4 {
		e, _ := disk.New(6)
		k, _ := opened(t, e)
		add(t, k, sized(t, 1, 24), sized(t, 2, 24))
		e.Crash(keep, 0)
		want := slices.Concat(now(d)[:32*keep], make([]byte, 32*(6-keep)))
		if !bytes.Equal(e.Image(), want) {
			t.Errorf("with %d writes kept the disk has %v, not %v", keep, e.Image(), want)
		}
	}
}

func TestBytesAtASectorsEdges(t *testing.T) {
	for _, c := range []struct {
		sizes  []int
		counts []byte
	}{
		{[]int{15}, []byte{128 + 15}},
		{[]int{16}, []byte{128 + 16}},
		{[]int{17}, []byte{128 + 16, 1}},
		{[]int{15, 17}, []byte{128 + 16, 16}},
		{[]int{16, 16}, []byte{128 + 16, 16}},
		{[]int{9, 24}, []byte{128 + 16, 16, 1}},
	} {
		var list []api.Rec
		for i, size := range c.sizes {
			list = append(list, sized(t, i+1, size))
		}
		d, l := fresh(t, 4)
		if err := l.Append(list, 4-len(c.counts)); err != api.OK {
			t.Errorf("Append of records of %v bytes is %v", c.sizes, err)
		}
		wantLog(t, l, 1+len(c.counts), 1, 4-len(c.counts))
		for at, want := range c.counts {
			if b, _ := d.Read(at); b[8] != want {
				t.Errorf("of records of %v bytes the sector %d tells %d, not %d", c.sizes, at, b[8], want)
			}
		}
		wantTold(t, d, 1+len(c.counts), 1, list...)
	}
}

func TestAppendOfAllKinds(t *testing.T) {
	list := rightRecords()
	d, l := fresh(t, 40)
	add(t, l, list...)
	for _, r := range list {
		add(t, l, r)
	}
	wantTold(t, d, l.Next(), 1, append(list, list...)...)
}

func TestAppendOfNone(t *testing.T) {
	for _, list := range [][]api.Rec{nil, {}} {
		d, l := fresh(t, 3)
		add(t, l, commit(1))
		before := now(d)
		for spare := range 3 {
			if err := l.Append(list, spare); err != api.OK {
				t.Errorf("Append of none with %d to spare is %v", spare, err)
			}
		}
		if err := l.Append(list, 3); err != api.ErrFull {
			t.Errorf("Append of none with one too many to spare is %v", err)
		}
		if err := l.Append(list, -1); err != api.ErrRange {
			t.Errorf("Append of none with -1 to spare is %v", err)
		}
		if d.Loose() != 1 || !bytes.Equal(now(d), before) {
			t.Error("an Append of none has written")
		}
		wantLog(t, l, 2, 1, 2)
		add(t, l, commit(2))
		add(t, l, commit(3))
		add(t, l, list...)
		wantTold(t, d, 4, 1, commits(1, 2, 3)...)
	}
}

func TestSpare(t *testing.T) {
	two := []api.Rec{sized(t, 1, 17)}
	calls := map[string]struct {
		do   func(l *Log, spare int) api.Errno
		need int
	}{
		"Append of none":     {func(l *Log, spare int) api.Errno { return l.Append(nil, spare) }, 0},
		"Append":             {func(l *Log, spare int) api.Errno { return l.Append(two, spare) }, 2},
		"Checkpoint of none": {func(l *Log, spare int) api.Errno { return l.Checkpoint(nil, spare) }, 1},
		"Checkpoint":         {func(l *Log, spare int) api.Errno { return l.Checkpoint(two, spare) }, 3},
	}
	for name, call := range calls {
		for _, spare := range append(edgeNumbers(), 5, 6, 7, 8, 9) {
			d, l := fresh(t, 8)
			add(t, l, commit(9))
			before := now(d)
			want := api.OK
			switch {
			case spare < 0:
				want = api.ErrRange
			case spare > 7-call.need:
				want = api.ErrFull
			}
			if got := call.do(l, spare); got != want {
				t.Errorf("%s with %d to spare is %v, not %v", name, spare, got, want)
			}
			if want != api.OK {
				if !bytes.Equal(now(d), before) || d.Loose() != 1 {
					t.Errorf("%s with %d to spare was refused, and has written", name, spare)
				}
				wantLog(t, l, 2, 1, 7)
			}
		}
	}
}

func TestWrongRecordsAreRefused(t *testing.T) {
	for _, wrong := range wrongRecords() {
		for _, list := range [][]api.Rec{{wrong}, {wrong, commit(1)}, {commit(1), wrong}, {commit(1), wrong, commit(2)}, append(slices.Repeat(commits(1), 100), wrong)} {
			d, l := fresh(t, 5)
			add(t, l, commit(9))
			before := now(d)
			for _, spare := range edgeNumbers() {
				if err := l.Append(list, spare); err != api.ErrForm {
					t.Errorf("Append(%v, %d) is %v", list, spare, err)
				}
				if err := l.Checkpoint(list, spare); err != api.ErrForm {
					t.Errorf("Checkpoint(%v, %d) is %v", list, spare, err)
				}
			}
			if !bytes.Equal(now(d), before) || d.Loose() != 1 {
				t.Error("wrong records have been written")
			}
			wantLog(t, l, 2, 1, 4)
		}
	}
}

func TestErrorsInTheirOrder(t *testing.T) {
	_, l := fresh(t, 1)
	many := slices.Repeat(commits(1), 6)
	if err := l.Append(many, -1); err != api.ErrRange {
		t.Errorf("Append of too many with -1 to spare is %v", err)
	}
	if err := l.Append(many, 0); err != api.ErrFull {
		t.Errorf("Append of too many is %v", err)
	}
	if err := l.Checkpoint(many, -1); err != api.ErrRange {
		t.Errorf("Checkpoint of too many with -1 to spare is %v", err)
	}
	if err := l.Checkpoint(many, 0); err != api.ErrFull {
		t.Errorf("Checkpoint of too many is %v", err)
	}
	wantLog(t, l, 1, 1, 1)
}

func TestMoreSectorsThanAreFree(t *testing.T) {
	for n := 1; n <= 5; n++ {
		d, l := fresh(t, n)
		just := slices.Repeat(commits(1), 16*n/3)
		over := slices.Repeat(commits(1), 16*n/3+1)
		if err := l.Append(over, 0); err != api.ErrFull || d.Loose() != 0 {
			t.Errorf("Append of %d sectors on %d is %v, with %d writes", Sectors(over), n, err, d.Loose())
		}
		if err := l.Checkpoint(just, 0); err != api.ErrFull || d.Loose() != 0 {
			t.Errorf("Checkpoint of %d sectors on %d is %v, with %d writes", Sectors(just)+1, n, err, d.Loose())
		}
		add(t, l, just...)
		wantLog(t, l, n+1, 1, 0)
		if err := l.Append(commits(1), 0); err != api.ErrFull {
			t.Errorf("Append on a full log is %v", err)
		}
		wantTold(t, d, n+1, 1, just...)
		l.Force()
		if err := l.Append(commits(1), 0); err != api.ErrFull {
			t.Errorf("Append on a full log that was forced is %v", err)
		}
		wantTold(t, d, n+1, 1, just...)
	}
}

func TestTheGreatestNumbers(t *testing.T) {
	top := uint32(math.MaxUint32)
	behind := func(number uint32) (*disk.Disk, *Log) {
		d := handWritten(t, 8, hand{number, number, 128 + 3, []byte{11, 0, 0}})
		l, _ := opened(t, d)
		wantLog(t, l, int(number)+1, int(number), 7)
		return d, l
	}

	d, l := behind(top)
	for spare := range 8 {
		if err := l.Append(nil, spare); err != api.OK {
			t.Errorf("Append of none behind the greatest number is %v", err)
		}
	}
	if err := l.Append(commits(1), 0); err != api.ErrFull {
		t.Errorf("Append behind the greatest number is %v", err)
	}
	if err := l.Checkpoint(nil, 0); err != api.ErrFull {
		t.Errorf("Checkpoint behind the greatest number is %v", err)
	}
	wantTold(t, d, 1<<32, int(top), commit(1))

	three := []api.Rec{sized(t, 1, 24), sized(t, 2, 24)}
	d, l = behind(top - 2)
	if err := l.Append(three, 0); err != api.ErrFull {
		t.Errorf("Append of 3 sectors with 2 numbers is %v", err)
	}
	if err := l.Checkpoint([]api.Rec{sized(t, 1, 17)}, 0); err != api.ErrFull {
		t.Errorf("Checkpoint of 3 sectors with 2 numbers is %v", err)
	}
	if d.Loose() != 0 {
		t.Error("what was refused was written")
	}
	add(t, l, sized(t, 3, 17))
	wantTold(t, d, 1<<32, int(top-2), commit(1), sized(t, 3, 17))
	wantLog(t, l, 1<<32, int(top-2), 5)

	d, l = behind(top - 2)
	checkpoint(t, l, commit(5))
	wantTold(t, d, 1<<32, int(top-1), commit(5))
	l.Force()
	wantLog(t, l, 1<<32, int(top-1), 6)
}

func TestTheGreatestDisk(t *testing.T) {
	d, l := fresh(t, 512)
	var all []api.Rec
	for i := range 512 {
		add(t, l, commit(i+1))
		all = append(all, commit(i+1))
	}
	l.Force()
	wantLog(t, l, 513, 1, 0)
	wantTold(t, d, 513, 1, all...)
	if err := l.Append(commits(1), 0); err != api.ErrFull {
		t.Errorf("Append on a full log is %v", err)
	}
}

// P5.3

func TestCheckpointWritesSectors(t *testing.T) {
	d, l := fresh(t, 6)
	add(t, l, commit(1))
	list := []api.Rec{sized(t, 2, 24)}
	b, _ := rec.Join(list)
	checkpoint(t, l, list...)
	want := slices.Concat(
		hand{1, 1, 128 + 3, []byte{11, 0, 0}}.bytes(),
		hand{2, 1, 128 + 16, b[:16]}.bytes(),
		hand{3, 1, 8, b[16:]}.bytes(),
		hand{4, 2, 128, nil}.bytes(),
		make([]byte, 64),
	)
	if got := now(d); !bytes.Equal(got, want) || d.Loose() != 4 {
		t.Errorf("the disk has %v, not %v, by %d writes", got, want, d.Loose())
	}
	wantLog(t, l, 5, 2, 2)
	wantTold(t, d, 5, 2, list...)

	add(t, l, commit(3))
	if got, _ := d.Read(4); !bytes.Equal(got, hand{5, 2, 128 + 3, []byte{27, 0, 0}}.bytes()) {
		t.Errorf("behind a checkpoint that isn't forced, Append writes %v", got)
	}
	wantTold(t, d, 6, 2, append(list, commit(3))...)
	wantLog(t, l, 6, 2, 1)
	l.Force()
	wantLog(t, l, 6, 2, 2)
	wantTold(t, d, 6, 2, append(list, commit(3))...)
}

func TestCheckpointOfNone(t *testing.T) {
	for _, list := range [][]api.Rec{nil, {}} {
		d, l := fresh(t, 3)
		add(t, l, commit(1))
		checkpoint(t, l, list...)
		if got, _ := d.Read(1); !bytes.Equal(got, hand{2, 2, 128, nil}.bytes()) {
			t.Errorf("Checkpoint of none writes %v", got)
		}
		wantLog(t, l, 3, 2, 1)
		wantTold(t, d, 3, 2)
		l.Force()
		wantLog(t, l, 3, 2, 2)
		d.Crash(0, 0)
		wantTold(t, d, 3, 2)
	}
}

func TestCheckpointOnAnEmptyLog(t *testing.T) {
	d, l := fresh(t, 3)
	checkpoint(t, l)
	wantLog(t, l, 2, 1, 2)
	wantTold(t, d, 2, 1)
	checkpoint(t, l)
	wantLog(t, l, 3, 2, 1)
	checkpoint(t, l)
	wantLog(t, l, 4, 3, 0)
	if err := l.Checkpoint(nil, 0); err != api.ErrFull {
		t.Errorf("a fourth Checkpoint that isn't forced is %v", err)
	}
	l.Force()
	wantLog(t, l, 4, 3, 2)
	wantTold(t, d, 4, 3)
}

func TestDisksOfOneSectorAndOfTwo(t *testing.T) {
	d, l := fresh(t, 1)
	if err := l.Checkpoint(commits(1), 0); err != api.ErrFull {
		t.Errorf("Checkpoint of one record on one sector is %v", err)
	}
	checkpoint(t, l)
	l.Force()
	wantLog(t, l, 2, 1, 0)
	for _, err := range []api.Errno{l.Append(commits(1), 0), l.Checkpoint(nil, 0), l.Append(nil, 1)} {
		if err != api.ErrFull {
			t.Errorf("on a full sector there is %v", err)
		}
	}
	wantTold(t, d, 2, 1)

	d, l = fresh(t, 1)
	add(t, l, commits(1, 2, 3, 4, 5)...)
	l.Force()
	wantLog(t, l, 2, 1, 0)
	wantTold(t, d, 2, 1, commits(1, 2, 3, 4, 5)...)

	d, l = fresh(t, 2)
	for i := range 10 {
		checkpoint(t, l)
		if i > 0 {
			wantLog(t, l, i+2, i+1, 0)
		}
		l.Force()
		wantLog(t, l, i+2, i+1, 1)
		wantTold(t, d, i+2, i+1)
	}
	if err := l.Checkpoint(commits(1), 0); err != api.ErrFull {
		t.Errorf("Checkpoint of two sectors with one free is %v", err)
	}
	add(t, l, commit(7))
	wantTold(t, d, 12, 10, commit(7))

	d, l = fresh(t, 2)
	checkpoint(t, l, commit(1))
	l.Force()
	wantLog(t, l, 3, 1, 0)
	wantTold(t, d, 3, 1, commit(1))
}

func TestRoundAndRoundAgain(t *testing.T) {
	for n := 4; n <= 9; n++ {
		d, l := fresh(t, n)
		number := 1
		for i := range 5 * n {
			first := number
			checkpoint(t, l, commit(i+1))
			number += 2
			l.Force()
			wantLog(t, l, number, first, n-2)
			told := commits(i + 1)
			for l.Free() > 2 { // two stay for the next checkpoint
				r := sized(t, i+2, 9+i%8)
				if err := l.Append([]api.Rec{r}, 2); err != api.OK {
					t.Fatalf("Append with %d free is %v", l.Free(), err)
				}
				told = append(told, r)
				number++
			}
			if err := l.Append(commits(1), 2); err != api.ErrFull {
				t.Errorf("Append with two to spare of %d is %v", l.Free(), err)
			}
			wantTold(t, d, number, first, told...)
			d.Crash(d.Loose(), 0)
			l, told = opened(t, d)
			wantLog(t, l, number, first, n-number+first)
			if len(told) != max(1, n-3) {
				t.Errorf("%d records are told", len(told))
			}
		}
	}
}

func TestACheckpointThatIsNotForced(t *testing.T) {
	d, l := fresh(t, 5)
	add(t, l, commit(1))
	add(t, l, commit(2))
	l.Force()
	checkpoint(t, l, commit(3))
	wantLog(t, l, 5, 3, 1)
	if err := l.Append([]api.Rec{sized(t, 4, 17)}, 0); err != api.ErrFull {
		t.Errorf("Append over what counts for sure is %v", err)
	}
	if err := l.Append(commits(4), 1); err != api.ErrFull {
		t.Errorf("Append with one to spare, that counts for sure, is %v", err)
	}
	add(t, l, commit(4))
	wantLog(t, l, 6, 3, 0)
	if err := l.Checkpoint(nil, 0); err != api.ErrFull {
		t.Errorf("Checkpoint over what counts for sure is %v", err)
	}
	wantTold(t, d, 6, 3, commits(3, 4)...)
	d.Crash(0, 0)
	wantTold(t, d, 3, 1, commits(1, 2)...)
	l, _ = opened(t, d)
	wantLog(t, l, 3, 1, 3)
	checkpoint(t, l, commit(5))
	l.Force()
	wantLog(t, l, 5, 3, 3)
	add(t, l, sized(t, 6, 24), sized(t, 7, 24))
	wantLog(t, l, 8, 3, 0)
	wantTold(t, d, 8, 3, commit(5), sized(t, 6, 24), sized(t, 7, 24))
}

// P5.4

// atEachCrash builds a disk anew for each crash that its loose writes can have.
func atEachCrash(t *testing.T, build func() *disk.Disk, check func(d *disk.Disk, kept int)) {
	t.Helper()
	loose := build().Loose()
	for keep := range loose + 1 {
		for tear := range 32 {
			d := build()
			whole := build()
			whole.Crash(keep+1, 0)
			d.Crash(keep, tear)
			if bytes.Equal(d.Image(), whole.Image()) {
				check(d, min(keep+1, loose)) // what was torn is as it was written
			} else {
				check(d, keep)
			}
			sameAsItsBytes(t, d)
		}
	}
}

func TestCrashBetweenTheSectorsOfAnAppend(t *testing.T) {
	one, two, three := sized(t, 2, 24), sized(t, 3, 9), sized(t, 4, 24)
	build := func() *disk.Disk {
		d, l := fresh(t, 6)
		add(t, l, commit(1))
		l.Force()
		add(t, l, one, two, three) // 57 bytes: the first ends in the second sector, the others in the third and the fourth
		return d
	}
	want := [][]api.Rec{{}, {}, {one}, {one, two}, {one, two, three}}
	seen := map[int]int{}
	atEachCrash(t, build, func(d *disk.Disk, kept int) {
		seen[kept]++
		wantTold(t, d, 2+kept, 1, append(commits(1), want[kept]...)...)
	})
	for kept := range 5 {
		if seen[kept] < 28 {
			t.Errorf("%d sectors were kept %d times", kept, seen[kept])
		}
	}
}

func TestCrashBetweenACheckpointsSectors(t *testing.T) {
	one, two := sized(t, 3, 16), sized(t, 4, 16)
	build := func() *disk.Disk {
		d, l := fresh(t, 6)
		add(t, l, commit(1))
		add(t, l, commit(2))
		l.Force()
		checkpoint(t, l, one, two)
		add(t, l, commit(5))
		return d
	}
	old := commits(1, 2)
	atEachCrash(t, build, func(d *disk.Disk, kept int) {
		switch kept {
		case 0:
			wantTold(t, d, 3, 1, old...)
		case 1:
			wantTold(t, d, 4, 1, append(old, one)...)
		case 2:
			wantTold(t, d, 5, 1, append(old, one, two)...)
		case 3:
			wantTold(t, d, 6, 3, one, two)
		case 4:
			wantTold(t, d, 7, 3, one, two, commit(5))
		}
	})
}

func TestCrashOnALaterRound(t *testing.T) {
	// Numbers with a second byte, so that a torn one can have a part of its own number.
	build := func() *disk.Disk {
		d := handWritten(t, 3, hand{254, 254, 128 + 3, []byte{11, 0, 0}})
		l, _ := opened(t, d)
		checkpoint(t, l, commit(2)) // 255 and 256
		l.Force()
		add(t, l, commit(3)) // 257, where 254 was
		return d
	}
	atEachCrash(t, build, func(d *disk.Disk, kept int) {
		wantTold(t, d, 257+kept, 255, commits(2, 3)[:1+kept]...)
	})

	build = func() *disk.Disk {
		d := handWritten(t, 3, hand{253, 253, 128 + 3, []byte{11, 0, 0}})
		l, _ := opened(t, d)
		checkpoint(t, l, commit(2)) // 254 and 255
		l.Force()
		add(t, l, commit(3)) // 256, where 253 was
		return d
	}
	atEachCrash(t, build, func(d *disk.Disk, kept int) {
		wantTold(t, d, 256+kept, 254, commits(2, 3)[:1+kept]...)
	})
}

func TestWhatWasForcedStays(t *testing.T) {
	for _, keep := range edgeNumbers() {
		for _, tear := range edgeNumbers() {
			d, l := fresh(t, 4)
			add(t, l, sized(t, 1, 24))
			l.Force()
			d.Crash(keep, tear)
			wantTold(t, d, 3, 1, sized(t, 1, 24))
		}
	}
}

func TestAnAppendInThePlaceOfWhatWasLost(t *testing.T) {
	long := sized(t, 2, 24)
	for tear := range 32 {
		d, l := fresh(t, 5)
		add(t, l, commit(1))
		l.Force()
		add(t, l, long)
		d.Crash(1, 0)
		l, list := opened(t, d)
		if !slices.Equal(list, commits(1)) {
			t.Errorf("what was cut off is told: %v", list)
		}
		wantLog(t, l, 3, 1, 3)
		// Read on from what was cut off, these bytes would be its end.
		add(t, l, commits(3, 4, 5)...)
		if b, _ := d.Read(2); b[8] != 128+9 {
			t.Errorf("the sector behind what was cut off tells %d", b[8])
		}
		wantTold(t, d, 4, 1, commits(1, 3, 4, 5)...)
		l.Force()
		d.Crash(0, 0)
		wantTold(t, d, 4, 1, commits(1, 3, 4, 5)...)

		// And behind a second crash.
		l, _ = opened(t, d)
		add(t, l, long)
		d.Crash(1, tear)
		l, list = opened(t, d)
		if len(list) == 5 {
			wantLog(t, l, 6, 1, 0)
			continue
		}
		wantLog(t, l, 5, 1, 1)
		add(t, l, commit(6))
		l.Force()
		d.Crash(0, tear)
		wantTold(t, d, 6, 1, commits(1, 3, 4, 5, 6)...)
	}
}

func TestASecondCrashInTheSamePlace(t *testing.T) {
	for one := range 32 {
		for two := range 32 {
			d, l := fresh(t, 2)
			checkpoint(t, l)
			l.Force()
			checkpoint(t, l)
			l.Force()
			add(t, l, commit(1)) // 3, where 1 was
			d.Crash(0, one)
			l, list := opened(t, d)
			if len(list) == 1 {
				continue
			}
			add(t, l, commit(2))
			d.Crash(0, two)
			l, list = opened(t, d)
			if len(list) == 1 {
				wantTold(t, d, 4, 2, commit(2))
				continue
			}
			wantTold(t, d, 3, 2)
			add(t, l, commit(3))
			l.Force()
			wantTold(t, d, 4, 2, commit(3))
		}
	}
}

func TestACheckpointThatWasLostDoesNotCount(t *testing.T) {
	d, l := fresh(t, 6)
	add(t, l, commit(1))
	l.Force()
	checkpoint(t, l, commit(2))
	d.Crash(1, 0)
	l, list := opened(t, d)
	if !slices.Equal(list, commits(1, 2)) {
		t.Errorf("Open tells %v", list)
	}
	wantLog(t, l, 3, 1, 4)
	add(t, l, commit(3))
	wantTold(t, d, 4, 1, commits(1, 2, 3)...)
}

// played is one Append or Checkpoint, as records alone.
type played struct {
	start, sectors int
	list           []api.Rec
	whole          bool // a checkpoint, with its last sector
}

// model is a log of records: what is told hangs on how many sectors are there.
type model struct {
	sectors int
	calls   []played
	next    int
	lasts   int // the next number of what lasts
	sure    int
}

func (m *model) first() int {
	first := 1
	for _, c := range m.calls {
		if c.whole {
			first = c.start
		}
	}
	return first
}

func (m *model) told() []api.Rec {
	var list []api.Rec
	for _, c := range m.calls {
		if c.start >= m.first() {
			list = append(list, c.list...)
		}
	}
	return list
}

func (m *model) do(list []api.Rec, spare int, whole bool) api.Errno {
	need := (sizeOf(list) + 15) / 16
	if whole {
		need++
	}
	switch {
	case slices.ContainsFunc(list, func(r api.Rec) bool { return !rec.Right(r) }):
		return api.ErrForm
	case spare < 0:
		return api.ErrRange
	case m.sectors-m.next+m.sure-need < spare:
		return api.ErrFull
	}
	m.calls = append(m.calls, played{m.next, need, list, whole})
	m.next += need
	return api.OK
}

func sizeOf(list []api.Rec) int {
	size := 0
	for _, r := range list {
		b, _ := rec.Encode(r)
		size += len(b)
	}
	return size
}

// cutAt: only sectors with numbers below next are left.
func (m *model) cutAt(next int) {
	for i, c := range m.calls {
		if c.start+c.sectors <= next {
			continue
		}
		c.sectors = max(0, next-c.start)
		c.whole = false
		n := 0
		for n < len(c.list) && sizeOf(c.list[:n+1]) <= 16*c.sectors {
			n++
		}
		c.list = c.list[:n]
		m.calls[i] = c
	}
	m.next = next
	m.lasts = next
	m.sure = m.first()
}

// bites hands out a script's bytes, and noughts behind them.
type bites []byte

func (b *bites) next() int {
	if len(*b) == 0 {
		return 0
	}
	x := (*b)[0]
	*b = (*b)[1:]
	return int(x)
}

func scriptRecords(t testing.TB, s *bites, tx int) []api.Rec {
	list := []api.Rec{}
	for range s.next() % 4 {
		switch kind := s.next(); {
		case kind < 8:
			list = append(list, wrongRecords()[kind])
		case kind < 120:
			list = append(list, commit(tx))
		default:
			list = append(list, sized(t, tx, 9+kind%16))
		}
	}
	return list
}

// spareOf: mostly none.
func spareOf(x int) int {
	return []int{0, 0, 0, 0, 0, 1, 2, -1}[x%8]
}

// play holds a log against the model, call by call.
func play(t testing.TB, sectors int, script []byte) {
	t.Helper()
	s := bites(script)
	d, l := fresh(t, sectors)
	m := &model{sectors: sectors, next: 1, lasts: 1, sure: 1}
	for tx := 1; len(s) > 0 && !t.Failed(); tx++ {
		switch what := s.next() % 8; what {
		case 0, 1, 2, 3, 4:
			list, spare, whole := scriptRecords(t, &s, tx), spareOf(s.next()), what == 4
			call := l.Append
			if whole {
				call = l.Checkpoint
			}
			if got, want := call(list, spare), m.do(list, spare, whole); got != want {
				t.Fatalf("records %v with %d to spare are %v, not %v", list, spare, got, want)
			}
		case 5:
			l.Force()
			m.lasts, m.sure = m.next, m.first()
		default:
			if d.Loose() != m.next-m.lasts {
				t.Fatalf("%d writes are loose, not %d", d.Loose(), m.next-m.lasts)
			}
			keep, tear := s.next()%8, s.next()%32
			least := min(m.lasts+keep, m.next)
			d.Crash(keep, tear)
			l, _ = opened(t, d)
			if l.Next() != least && (tear < 29 || l.Next() != min(least+1, m.next)) {
				t.Fatalf("with %d writes kept, and %d bytes, the next number is %d, not %d", keep, tear, l.Next(), least)
			}
			m.cutAt(l.Next())
		}
		wantLog(t, l, m.next, m.first(), sectors-m.next+m.sure)
		wantTold(t, d, m.next, m.first(), m.told()...)
	}
	sameAsItsBytes(t, d)
}

func TestAgainstAModel(t *testing.T) {
	r := rand.New(rand.NewSource(555))
	for sectors := 1; sectors <= 12; sectors++ {
		for range 150 {
			script := make([]byte, 400)
			r.Read(script)
			play(t, sectors, script)
		}
	}
}

// P5.5

// within: a list in the midst of a longer one's memory.
func within[E any](list []E, behind ...E) (part, whole []E) {
	whole = slices.Concat(list, behind)
	return whole[:len(list)], whole
}

func fill[E any](list []E, e E) {
	list = list[:cap(list)]
	for i := range list {
		list[i] = e
	}
}

func TestWhatIsHandedInIsNeitherChangedNorKept(t *testing.T) {
	calls := map[string]func(l *Log, list []api.Rec) api.Errno{
		"Append":     func(l *Log, list []api.Rec) api.Errno { return l.Append(list, 0) },
		"Checkpoint": func(l *Log, list []api.Rec) api.Errno { return l.Checkpoint(list, 0) },
		"Sectors": func(l *Log, list []api.Rec) api.Errno {
			Sectors(list)
			return l.Append(slices.Clone(list), 0)
		},
	}
	for name, call := range calls {
		want := rightRecords()
		d, l := fresh(t, 30)
		part, whole := within(rightRecords(), commits(77, 78)...)
		before := slices.Clone(whole)
		if err := call(l, part); err != api.OK {
			t.Fatalf("%s is %v", name, err)
		}
		if !slices.Equal(whole, before) {
			t.Errorf("%s has changed what was handed in", name)
		}
		fill(whole, commit(99))
		l.Force()
		wantTold(t, d, l.Next(), 1, want...)
	}
}

func TestWhatIsAnsweredIsNew(t *testing.T) {
	d, l := fresh(t, 30)
	add(t, l, rightRecords()...)
	l.Force()
	one, list := opened(t, d)
	_, other := opened(t, d)
	fill(list, commit(99))
	if !slices.Equal(other, rightRecords()) {
		t.Errorf("two Opens' answers share memory: %v", other)
	}
	add(t, one, commit(5))
	wantTold(t, d, one.Next(), 1, append(rightRecords(), commit(5))...)
}

func TestLogsOfTwoDisksAreApart(t *testing.T) {
	d, l := fresh(t, 4)
	e, k := fresh(t, 4)
	add(t, l, commit(1))
	wantLog(t, k, 1, 1, 4)
	add(t, k, commits(2, 3)...)
	checkpoint(t, k, commit(4))
	k.Force()
	wantLog(t, l, 2, 1, 3)
	if d.Loose() != 1 {
		t.Error("a Force of one log has flushed the other one's disk")
	}
	wantTold(t, d, 2, 1, commit(1))
	wantTold(t, e, 4, 2, commit(4))
}

// P1

func TestNoCallPanics(t *testing.T) {
	lists := [][]api.Rec{nil, {}, rightRecords(), wrongRecords(), slices.Repeat(rightRecords(), 200), commits(1, 0)}
	for _, sectors := range []int{1, 2, 3, 512} {
		for _, list := range lists {
			Sectors(list)
			d, l := fresh(t, sectors)
			for i, spare := range edgeNumbers() {
				l.Append(list, spare)
				l.Checkpoint(list, spare)
				l.Free()
				l.Next()
				l.First()
				if i%3 == 0 {
					l.Force()
				}
				if i%5 == 0 {
					d.Crash(i, i)
					l, _ = opened(t, d)
				}
			}
		}
	}
}

func TestADiskThatIsChangedBehindTheLogsBack(t *testing.T) {
	d, l := fresh(t, 3)
	add(t, l, commit(1))
	l.Force()
	for at := range 3 {
		put(t, d, at, bytes.Repeat([]byte{255}, 32))
	}
	d.Flush()
	wantLog(t, l, 2, 1, 2)
	add(t, l, commit(2))
	checkpoint(t, l)
	l.Force()
	wantTold(t, d, 4, 3)
}

func FuzzWal(f *testing.F) {
	f.Add(3, []byte{0, 1, 100, 0, 5, 4, 1, 100, 0, 6, 1, 3})
	f.Add(5, []byte{4, 2, 200, 240, 0, 5, 0, 3, 255, 255, 255, 0, 7, 2, 30})
	f.Add(1, bytes.Repeat([]byte{255}, 64))
	f.Fuzz(func(t *testing.T, sectors int, script []byte) {
		script = script[:min(len(script), 600)] // each step opens the log: longer ones take long
		play(t, 1+int(uint(sectors)%16), script)
		d := made(t, 1+int(uint(sectors)%16))
		for at := range d.Sectors() {
			b := make([]byte, 32)
			copy(b, script[min(len(script), 32*at):])
			put(t, d, at, b)
		}
		sameAsItsBytes(t, d)
	})
}
