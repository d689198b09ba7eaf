package rec

import (
	"bytes"
	"math"
	"math/big"
	"slices"
	"testing"

	"concordat/api"
)

func there(n int) api.Val {
	return api.Val{There: true, N: n}
}

func edgeNumbers() []int {
	out := []int{0, 1, -1, 2, -2, 5, 63, -64, 64, -65, 127, 128, -128, -129, 255, 256, -256, -257, math.MaxInt, math.MinInt, math.MaxInt - 1, math.MinInt + 1}
	for k := 1; k <= 8; k++ {
		// On both sides of where a number takes one byte more.
		edge := 1 << (8*k - 1)
		out = append(out, edge-1, edge, edge+1, -edge-1, -edge, -edge+1)
	}
	return out
}

func rightVals() []api.Val {
	out := []api.Val{{}}
	for _, n := range edgeNumbers() {
		out = append(out, there(n))
	}
	return out
}

func wrongVals() []api.Val {
	return []api.Val{{N: 1}, {N: -1}, {N: 256}, {N: math.MinInt}, {N: math.MaxInt}}
}

func edgeKeys() []api.Key {
	return []api.Key{{}, {'a', 'b', 'c', 'd'}, {255, 255, 255, 255}, {0, 0, 0, 1}, {1}}
}

func rightTxs() []int {
	return []int{1, 2, 5, 31, 32, 33, 8191, 8192, 1<<20 - 1, 1 << 20}
}

func wrongTxs() []int {
	return []int{0, -1, -5, 1<<20 + 1, 1 << 21, 1<<21 + 1, 1<<32 + 1, 1 << 61, math.MaxInt, math.MinInt, math.MinInt + 1}
}

func edgeMasks() []uint16 {
	return []uint16{1, 2, 3, 63, 64, 65, 255, 256, 0x0102, 0x8000, 0xffff}
}

// rightRecords: of all kinds, at the edges of each of their fields.
func rightRecords() []api.Rec {
	var out []api.Rec
	for _, tx := range rightTxs() {
		for _, kind := range []int{api.RRead, api.RCommit, api.RAbort, api.REnd} {
			out = append(out, api.Rec{Kind: kind, Tx: tx})
		}
		for _, mask := range edgeMasks() {
			out = append(out, api.Rec{Kind: api.RYes, Tx: tx, Mask: mask})
		}
		for _, key := range edgeKeys() {
			out = append(out, api.Rec{Kind: api.RWrite, Tx: tx, Key: key, New: there(tx)})
		}
	}
	for mask := range 65 {
		out = append(out, api.Rec{Kind: api.RStart, Mask: uint16(mask)})
	}
	for _, old := range rightVals() {
		for _, has := range rightVals() {
			out = append(out, api.Rec{Kind: api.RWrite, Tx: 7, Key: api.Key{1, 2, 3, 4}, Old: old, New: has})
		}
		if old.There {
			for _, key := range edgeKeys() {
				out = append(out, api.Rec{Kind: api.RBase, Key: key, New: old})
			}
		}
	}
	return out
}

// fewRecords: one or two of each kind, of each length.
func fewRecords() []api.Rec {
	key := api.Key{'k', 0, 255, 1}
	return []api.Rec{
		{Kind: api.RWrite, Tx: 1, Key: key},
		{Kind: api.RWrite, Tx: 1 << 20, Key: key, Old: there(math.MinInt), New: there(math.MaxInt)},
		{Kind: api.RWrite, Tx: 3, Key: key, Old: there(255)},
		{Kind: api.RWrite, Tx: 3, Key: key, New: there(256)},
		{Kind: api.RYes, Tx: 9, Mask: 1},
		{Kind: api.RYes, Tx: 1 << 20, Mask: 0xffff},
		{Kind: api.RRead, Tx: 1},
		{Kind: api.RCommit, Tx: 5},
		{Kind: api.RAbort, Tx: 1 << 20},
		{Kind: api.REnd, Tx: 77},
		{Kind: api.RBase, Key: key, New: there(0)},
		{Kind: api.RBase, Key: key, New: there(1 << 40)},
		{Kind: api.RStart},
		{Kind: api.RStart, Mask: 64},
	}
}

// wrongRecords: right ones with one thing in them that isn't.
func wrongRecords() []api.Rec {
	var out []api.Rec
	for _, kind := range []int{0, -1, -7, 9, 10, 16, 257, 1 << 32, math.MaxInt, math.MinInt} {
		out = append(out, api.Rec{Kind: kind}, api.Rec{Kind: kind, Tx: 1}, api.Rec{Kind: kind, Tx: 1, Mask: 1}, api.Rec{Kind: kind, New: there(1)})
	}
	for _, good := range fewRecords() {
		for _, tx := range wrongTxs() {
			bad := good
			bad.Tx = tx
			if tx != good.Tx {
				out = append(out, bad)
			}
		}
		for _, val := range wrongVals() {
			old, has := good, good
			old.Old, has.New = val, val
			out = append(out, old, has)
		}
		out = append(out, withoutItsNoughts(good)...)
	}
	return append(out,
		api.Rec{Kind: api.RYes, Tx: 1},
		api.Rec{Kind: api.RStart, Mask: 65},
		api.Rec{Kind: api.RStart, Mask: 256},
		api.Rec{Kind: api.RStart, Mask: 0xffff},
		api.Rec{Kind: api.RStart, Tx: 1},
		api.Rec{Kind: api.RBase},
		api.Rec{Kind: api.RBase, Key: api.Key{1, 2, 3, 4}},
		api.Rec{Kind: api.RBase, Tx: 1, New: there(1)},
		api.Rec{})
}

// withoutItsNoughts: a right record with something in each field that its kind wants to be a nought.
func withoutItsNoughts(good api.Rec) []api.Rec {
	var out []api.Rec
	kind := good.Kind
	if kind != api.RYes && kind != api.RStart {
		for _, mask := range edgeMasks() {
			bad := good
			bad.Mask = mask
			out = append(out, bad)
		}
	}
	if kind == api.RWrite {
		return out
	}
	for _, val := range []api.Val{there(0), there(1), there(-1)} {
		old, has := good, good
		old.Old, has.New = val, val
		out = append(out, old)
		if kind != api.RBase {
			out = append(out, has)
		}
	}
	if kind != api.RBase {
		for at := range 4 {
			bad := good
			bad.Key[at] = 1
			out = append(out, bad)
		}
	}
	return out
}

// digits: a number's bytes, the lowest first, by dividing.
func digits(n *big.Int, least int) []byte {
	var out []byte
	for rest := new(big.Int).Set(n); rest.Sign() > 0 || len(out) < least; {
		digit := new(big.Int)
		rest.DivMod(rest, big.NewInt(256), digit)
		out = append(out, byte(digit.Int64()))
	}
	return out
}

func valDigits(v api.Val) []byte {
	if !v.There {
		return nil
	}
	zig := big.NewInt(int64(v.N))
	zig.Mul(zig, big.NewInt(2))
	if v.N < 0 {
		zig.Neg(zig).Sub(zig, big.NewInt(1))
	}
	return digits(zig, 1)
}

// spelled: a right record's bytes, as the chapter tells them, by other means than the program's.
func spelled(r api.Rec) []byte {
	out := digits(big.NewInt(int64(r.Tx*8+r.Kind-1)), 3)
	if r.Kind == api.RYes || r.Kind == api.RStart {
		return append(out, byte(r.Mask%256), byte(r.Mask/256))
	}
	if r.Kind != api.RWrite && r.Kind != api.RBase {
		return out
	}
	old, has := valDigits(r.Old), valDigits(r.New)
	flags := 0
	if r.Old.There {
		flags += 1 + 4*(len(old)-1)
	}
	if r.New.There {
		flags += 2 + 32*(len(has)-1)
	}
	out = append(out, r.Key[0], r.Key[1], r.Key[2], r.Key[3], byte(flags))
	return append(append(out, old...), has...)
}

// parsed: the record at the beginning of bytes, or none, refused at the first byte that no right record has there.
func parsed(b []byte) (api.Rec, int) {
	if len(b) < 3 {
		return api.Rec{}, 0
	}
	r := api.Rec{Kind: int(b[0]%8) + 1, Tx: int(b[0]/8) + int(b[1])*32 + int(b[2])*8192}
	if whole := r.Kind == api.RBase || r.Kind == api.RStart; whole != (r.Tx == 0) || r.Tx > 1<<20 {
		return api.Rec{}, 0
	}
	switch r.Kind {
	case api.RYes, api.RStart:
		return parsedMask(r, b)
	case api.RWrite, api.RBase:
		return parsedVals(r, b)
	}
	return r, 3
}

func parsedMask(r api.Rec, b []byte) (api.Rec, int) {
	if len(b) < 5 {
		return api.Rec{}, 0
	}
	r.Mask = uint16(b[3]) + uint16(b[4])*256
	if r.Kind == api.RYes && r.Mask == 0 || r.Kind == api.RStart && r.Mask > 64 {
		return api.Rec{}, 0
	}
	return r, 5
}

func parsedVals(r api.Rec, b []byte) (api.Rec, int) {
	if len(b) < 8 {
		return api.Rec{}, 0
	}
	copy(r.Key[:], b[3:7])
	flags, end := b[7], 8
	for at, v := range []*api.Val{&r.Old, &r.New} {
		more := int(flags >> (2 + 3*at) & 7)
		v.There = flags>>at&1 == 1
		if !v.There {
			if more != 0 {
				return api.Rec{}, 0
			}
			continue
		}
		if len(b) < end+more+1 || more > 0 && b[end+more] == 0 {
			return api.Rec{}, 0
		}
		u := uint64(0)
		for i := range more + 1 {
			u += uint64(b[end+i]) << (8 * i)
		}
		v.N = int(u / 2)
		if u%2 == 1 {
			v.N = -v.N - 1
		}
		end += more + 1
	}
	if r.Kind == api.RBase && (r.Old.There || !r.New.There) {
		return api.Rec{}, 0
	}
	return r, end
}

func wantDecoded(t *testing.T, b []byte, want api.Rec, wantN int) {
	t.Helper()
	if r, n := Decode(b); r != want || n != wantN {
		t.Errorf("Decode(%v) is %v, %d, not %v, %d", b, r, n, want, wantN)
	}
}

// P4.1

func TestRightRecords(t *testing.T) {
	for _, r := range rightRecords() {
		if !Right(r) {
			t.Errorf("%+v isn't right", r)
		}
		want := spelled(r)
		if b, ok := Encode(r); !ok || !bytes.Equal(b, want) {
			t.Errorf("Encode(%+v) is %v, %v, not %v", r, b, ok, want)
		}
		wantDecoded(t, want, r, len(want))
	}
}

func TestEncodeOfTheExamples(t *testing.T) {
	key := api.Key{'a', 'b', 'c', 'd'}
	for _, c := range []struct {
		r    api.Rec
		want []byte
	}{
		{api.Rec{Kind: api.RCommit, Tx: 5}, []byte{43, 0, 0}},
		{api.Rec{Kind: api.RAbort, Tx: 1 << 20}, []byte{4, 0, 128}},
		{api.Rec{Kind: api.REnd, Tx: 1}, []byte{13, 0, 0}},
		{api.Rec{Kind: api.RRead, Tx: 1 << 5}, []byte{2, 1, 0}},
		{api.Rec{Kind: api.RYes, Tx: 1, Mask: 1}, []byte{9, 0, 0, 1, 0}},
		{api.Rec{Kind: api.RYes, Tx: 1, Mask: 0xffff}, []byte{9, 0, 0, 255, 255}},
		{api.Rec{Kind: api.RStart}, []byte{7, 0, 0, 0, 0}},
		{api.Rec{Kind: api.RStart, Mask: 64}, []byte{7, 0, 0, 64, 0}},
		{api.Rec{Kind: api.RBase, Key: key, New: there(0)}, []byte{6, 0, 0, 'a', 'b', 'c', 'd', 2, 0}},
		{api.Rec{Kind: api.RBase, Key: key, New: there(-1)}, []byte{6, 0, 0, 'a', 'b', 'c', 'd', 2, 1}},
		{api.Rec{Kind: api.RWrite, Tx: 1, Key: key}, []byte{8, 0, 0, 'a', 'b', 'c', 'd', 0}},
		{api.Rec{Kind: api.RWrite, Tx: 1, Key: key, Old: there(255)}, []byte{8, 0, 0, 'a', 'b', 'c', 'd', 5, 254, 1}},
		{api.Rec{Kind: api.RWrite, Tx: 1, Key: key, New: there(256)}, []byte{8, 0, 0, 'a', 'b', 'c', 'd', 34, 0, 2}},
		{api.Rec{Kind: api.RWrite, Tx: 1, Key: key, Old: there(math.MinInt), New: there(math.MaxInt)},
			[]byte{8, 0, 0, 'a', 'b', 'c', 'd', 255, 255, 255, 255, 255, 255, 255, 255, 255, 254, 255, 255, 255, 255, 255, 255, 255}},
	} {
		if b, ok := Encode(c.r); !ok || !bytes.Equal(b, c.want) {
			t.Errorf("Encode(%+v) is %v, %v, not %v", c.r, b, ok, c.want)
		}
		wantDecoded(t, c.want, c.r, len(c.want))
	}
}

func TestValuesHaveOneToEightBytes(t *testing.T) {
	for n := 1; n <= 8; n++ {
		least, greatest := 0, 1<<(8*n-1)-1
		if n > 1 {
			least = 1 << (8*n - 9)
		}
		for _, at := range []int{least, greatest, -least - 1, -greatest - 1} {
			b, ok := Encode(api.Rec{Kind: api.RBase, New: there(at)})
			if !ok || len(b) != 8+n || int(b[7]) != 2+32*(n-1) {
				t.Errorf("%d has %v, %v, not %d bytes", at, b, ok, n)
			}
		}
	}
}

func TestWrongRecords(t *testing.T) {
	for _, r := range wrongRecords() {
		if Right(r) {
			t.Errorf("%+v is right", r)
		}
		if b, ok := Encode(r); ok || len(b) != 0 {
			t.Errorf("Encode(%+v) is %v, %v", r, b, ok)
		}
	}
}

func TestDecodeOfBytesThatAreNoRecord(t *testing.T) {
	for _, b := range [][]byte{
		nil,
		{},
		{43},
		{43, 0},
		{3, 0, 0},          // a commit of the transaction 0
		{8 + 3, 0, 128, 0}, // and of 2^20 + 1
		{0xfb, 255, 255, 0},
		{0, 0, 0, 1, 2, 3, 4, 2, 0}, // a write of the transaction 0
		{9, 0, 0, 0, 0},             // no Mask at RYes
		{7, 0, 0, 65, 0},
		{7, 0, 0, 0, 1},
		{7, 0, 0, 255, 255},
		{15, 0, 0, 1, 0},                      // RStart of a transaction
		{14, 0, 0, 1, 2, 3, 4, 2, 0},          // RBase of a transaction
		{6, 0, 0, 1, 2, 3, 4, 0, 0},           // RBase whose New isn't There
		{6, 0, 0, 1, 2, 3, 4, 1, 0, 0},        // whose Old is
		{6, 0, 0, 1, 2, 3, 4, 3, 0, 0},        // whose both are
		{6, 0, 0, 1, 2, 3, 4, 6, 0, 0},        // with a length of an Old that isn't There
		{8, 0, 0, 1, 2, 3, 4, 4, 0, 0},        // the same of a write
		{8, 0, 0, 1, 2, 3, 4, 32, 0, 0},       // and of New
		{8, 0, 0, 1, 2, 3, 4, 33, 0, 0},       // beside an Old that is There
		{8, 0, 0, 1, 2, 3, 4, 2 + 28, 0, 0},   // the greatest length of one that isn't
		{8, 0, 0, 1, 2, 3, 4, 5, 1, 0},        // 1 in two bytes
		{8, 0, 0, 1, 2, 3, 4, 5, 0, 0},        // 0 in two bytes
		{8, 0, 0, 1, 2, 3, 4, 34, 255, 0},     // 255 in two bytes
		{8, 0, 0, 1, 2, 3, 4, 39, 1, 2, 3, 0}, // two of two bytes, the second one needing one
		{6, 0, 0, 1, 2, 3, 4, 2 + 224, 1, 2, 3, 4, 5, 6, 7, 0},
	} {
		wantDecoded(t, b, api.Rec{}, 0)
		if l, n := All(b); len(l) != 0 || n != 0 {
			t.Errorf("All(%v) is %v, %d", b, l, n)
		}
	}
}

func TestDecodeOfBytesThatAreCut(t *testing.T) {
	for _, r := range rightRecords() {
		b := spelled(r)
		for cut := range b {
			wantDecoded(t, b[:cut], api.Rec{}, 0) // with the other bytes behind the length, in the same memory
			wantDecoded(t, bytes.Clone(b[:cut]), api.Rec{}, 0)
		}
	}
}

func TestDecodeLeavesTheBytesBehind(t *testing.T) {
	for _, r := range rightRecords() {
		for _, behind := range [][]byte{{0}, {255}, {0, 0, 0, 0, 0, 0, 0, 0}, bytes.Repeat([]byte{255}, 40)} {
			b := spelled(r)
			wantDecoded(t, append(bytes.Clone(b), behind...), r, len(b))
		}
	}
}

// Each byte of records is made each other byte: what is told of these is what a strict reading tells.
func TestDecodeOfOtherBytes(t *testing.T) {
	none, some := 0, 0
	for _, r := range fewRecords() {
		b := append(spelled(r), 0, 1, 0, 2)
		for at := range b {
			was := b[at]
			for x := range 256 {
				b[at] = byte(x)
				want, n := parsed(b)
				wantDecoded(t, b, want, n)
				if n == 0 {
					none++
				} else {
					some++
				}
			}
			b[at] = was
		}
	}
	if none < 1000 || some < 1000 {
		t.Errorf("only %d without a record, and %d with one", none, some)
	}
}

func TestDecodeOfAllHeads(t *testing.T) {
	for head := range 1 << 16 {
		for _, high := range []byte{0, 1, 127, 128, 129, 255} {
			b := []byte{byte(head), byte(head >> 8), high, 1, 0, 0, 0, 2, 4}
			want, n := parsed(b)
			wantDecoded(t, b, want, n)
		}
	}
}

// P4.2

func TestJoinAndAll(t *testing.T) {
	l := rightRecords()
	var want []byte
	for _, r := range l {
		want = append(want, spelled(r)...)
	}
	b, ok := Join(l)
	if !ok || !bytes.Equal(b, want) {
		t.Fatal("Join isn't the records' bytes one behind the other", ok)
	}
	if got, n := All(b); n != len(b) || !slices.Equal(got, l) {
		t.Errorf("All has %d of %d records, %d of %d bytes", len(got), len(l), n, len(b))
	}
}

func TestAllOfEachTwo(t *testing.T) {
	for _, one := range fewRecords() {
		for _, two := range fewRecords() {
			l := []api.Rec{one, two}
			want := append(spelled(one), spelled(two)...)
			b, ok := Join(l)
			if !ok || !bytes.Equal(b, want) {
				t.Errorf("Join(%+v) is %v, %v, not %v", l, b, ok, want)
			}
			if got, n := All(want); n != len(want) || !slices.Equal(got, l) {
				t.Errorf("All(%v) is %+v, %d", want, got, n)
			}
		}
	}
}

func TestAllOfBytesThatAreCut(t *testing.T) {
	l := fewRecords()
	var b []byte
	ends := []int{0}
	for _, r := range l {
		b = append(b, spelled(r)...)
		ends = append(ends, len(b))
	}
	for cut := range len(b) + 1 {
		whole := 0
		for whole+1 < len(ends) && ends[whole+1] <= cut {
			whole++
		}
		if got, n := All(b[:cut]); n != ends[whole] || !slices.Equal(got, l[:whole]) {
			t.Errorf("of %d bytes All has %d records and %d bytes, not %d and %d", cut, len(got), n, whole, ends[whole])
		}
	}
}

func TestAllStopsAtOtherBytes(t *testing.T) {
	l := fewRecords()
	b, _ := Join(l)
	for _, behind := range [][]byte{{0}, {43}, {43, 0}, {3, 0, 0}, {255, 255, 255}, {7, 0, 0, 65, 0}, {8, 0, 0, 0, 0, 0, 0, 5, 1, 0}} {
		for _, more := range [][]byte{nil, {43, 0, 0}, b} {
			all := slices.Concat(b, behind, more)
			if len(behind) < 3 && len(more) > 0 {
				continue // these might be a record together
			}
			if got, n := All(all); n != len(b) || !slices.Equal(got, l) {
				t.Errorf("with %v behind, All has %d records and %d bytes", behind, len(got), n)
			}
		}
	}
}

func TestNoRecordsAndNoBytes(t *testing.T) {
	for _, l := range [][]api.Rec{nil, {}} {
		if b, ok := Join(l); !ok || len(b) != 0 {
			t.Errorf("Join of none is %v, %v", b, ok)
		}
	}
	for _, b := range [][]byte{nil, {}} {
		if l, n := All(b); len(l) != 0 || n != 0 {
			t.Errorf("All of nothing is %v, %d", l, n)
		}
	}
}

func TestJoinWithOneWrongRecord(t *testing.T) {
	good := fewRecords()
	for _, bad := range wrongRecords() {
		for _, at := range []int{0, 1, len(good) / 2, len(good)} {
			if b, ok := Join(slices.Insert(slices.Clone(good), at, bad)); ok || len(b) != 0 {
				t.Errorf("Join with %+v at %d is %v, %v", bad, at, b, ok)
			}
		}
		if b, ok := Join([]api.Rec{bad}); ok || len(b) != 0 {
			t.Errorf("Join of %+v is %v, %v", bad, b, ok)
		}
	}
}

// P4.3

func TestNoBytesBeginWithOthers(t *testing.T) {
	var all [][]byte
	records := map[api.Rec]bool{}
	for _, r := range rightRecords() {
		if records[r] {
			continue
		}
		records[r] = true
		b, _ := Encode(r)
		all = append(all, b)
	}
	// Sorted, what begins with another one's bytes stands behind it with only such between.
	slices.SortFunc(all, bytes.Compare)
	for i := 1; i < len(all); i++ {
		if bytes.HasPrefix(all[i], all[i-1]) {
			t.Errorf("%v begins with %v", all[i], all[i-1])
		}
	}
}

// within: a list with other elements behind its length, and all of its memory.
func within[E any](list []E, behind ...E) (part, whole []E) {
	whole = slices.Concat(list, behind)
	return whole[:len(list)], whole
}

// fill writes over all of a list's memory, its spare room too.
func fill[E any](list []E, e E) {
	list = list[:cap(list)]
	for i := range list {
		list[i] = e
	}
}

func TestWhatIsHandedInStays(t *testing.T) {
	l := fewRecords()
	b, _ := Join(l)
	for _, behind := range [][]byte{{1, 2, 3}, {43, 0, 0}} {
		for cut := range len(b) + 1 {
			part, whole := within(b[:cut], behind...)
			was := bytes.Clone(whole)
			_, n := Decode(part)
			_, all := All(part)
			if !bytes.Equal(whole, was) {
				t.Errorf("bytes were changed: %v, now %v", was, whole)
			}
			if n > cut || all > cut {
				t.Errorf("of %d bytes %d and %d were taken", cut, n, all)
			}
		}
	}
	for _, list := range [][]api.Rec{l, wrongRecords(), append(fewRecords(), api.Rec{Kind: 9})} {
		part, whole := within(list, api.Rec{Kind: 3, Tx: 4}, api.Rec{})
		was := slices.Clone(whole)
		Join(part)
		if !slices.Equal(whole, was) {
			t.Errorf("records were changed: %v, now %v", was, whole)
		}
	}
}

func TestWhatIsAnsweredIsNew(t *testing.T) {
	l := fewRecords()
	for _, r := range l {
		first, _ := Encode(r)
		second, _ := Encode(r)
		fill(first, 9)
		third, _ := Encode(r)
		if want := spelled(r); !bytes.Equal(second, want) || !bytes.Equal(third, want) {
			t.Errorf("Encode's answers share memory: %v, %v", second, third)
		}
	}
	part, whole := within(l, api.Rec{Kind: 3, Tx: 4})
	b, _ := Join(part)
	again, _ := Join(part)
	got, _ := All(b)
	gotAgain, _ := All(b)
	fill(got, api.Rec{Kind: -1})
	if !bytes.Equal(b, again) || !slices.Equal(gotAgain, l) {
		t.Error("All's answer lies in its bytes, or in another answer")
	}
	fill(b, 9)
	if !slices.Equal(whole, append(fewRecords(), api.Rec{Kind: 3, Tx: 4})) || !slices.Equal(gotAgain, l) {
		t.Error("Join's answer lies in its records, or an answer of All in its bytes")
	}
	if third, _ := Join(part); !bytes.Equal(third, again) {
		t.Error("Join's answers share memory")
	}
}

func TestJoinOfOneIsNew(t *testing.T) {
	l := []api.Rec{{Kind: api.RCommit, Tx: 5}}
	first, _ := Join(l)
	second, _ := Join(l)
	fill(first, 9)
	if !bytes.Equal(second, []byte{43, 0, 0}) {
		t.Error("Join's answers share memory", second)
	}
}

// P1

func TestNoCallPanics(t *testing.T) {
	numbers := edgeNumbers()
	for _, kind := range append(numbers, 3, 4, 6, 7, 8, 9) {
		for _, n := range numbers {
			for _, flag := range []bool{false, true} {
				r := api.Rec{Kind: kind, Tx: n, Mask: uint16(n), Key: api.Key{byte(n)}, Old: api.Val{There: flag, N: n}, New: api.Val{There: !flag, N: n}}
				b, ok := Encode(r)
				if ok != Right(r) {
					t.Errorf("%+v: Encode says %v", r, ok)
				}
				Join([]api.Rec{r, r})
				Decode(b)
			}
		}
	}
	for _, x := range []byte{0, 1, 3, 6, 7, 8, 127, 128, 255} {
		for n := range 60 {
			Decode(bytes.Repeat([]byte{x}, n))
			All(bytes.Repeat([]byte{x}, n))
		}
	}
	long, _ := All(bytes.Repeat([]byte{43, 0, 0}, 100000))
	if len(long) != 100000 {
		t.Errorf("%d records of many", len(long))
	}
}

func FuzzRec(f *testing.F) {
	b, _ := Join(fewRecords())
	f.Add(b)
	f.Add([]byte{43, 0, 0})
	f.Add([]byte{8, 0, 0, 0, 0, 0, 0, 5, 1, 0})
	f.Fuzz(func(t *testing.T, b []byte) {
		was := bytes.Clone(b)
		want, n := parsed(b)
		wantDecoded(t, b, want, n)
		l, end := All(b)
		var at int
		for _, r := range l {
			want, n := parsed(b[at:])
			if n == 0 || r != want {
				t.Errorf("All has %+v where %+v stands", r, want)
			}
			at += n
		}
		if _, n := parsed(b[at:]); at != end || n != 0 {
			t.Errorf("All ends at %d, not at %d, with one of %d bytes behind", end, at, n)
		}
		if joined, ok := Join(l); !ok || !bytes.Equal(joined, b[:end]) {
			t.Errorf("Join of All's is %v, %v, not %v", joined, ok, b[:end])
		}
		if !bytes.Equal(b, was) {
			t.Error("bytes were changed")
		}
	})
}
