package label

import (
	"bytes"
	"math"
	"regexp"
	"slices"
	"strings"
	"testing"

	"concordat/api"
	"concordat/set"
)

const all = uint64(math.MaxUint64)

// place tells of one category whether it is in a label's Secret, and in its Trust.
type place struct{ secret, trust bool }

// spread is a label told apart from words.
type spread [64]place

func (in spread) label() api.Label {
	var a api.Label
	bit := uint64(1)
	for _, p := range in {
		if p.secret {
			a.Secret += bit
		}
		if p.trust {
			a.Trust += bit
		}
		bit += bit
	}
	return a
}

func spreadOf(a api.Label) spread {
	var in spread
	for c := range in {
		in[c] = place{a.Secret%2 == 1, a.Trust%2 == 1}
		a.Secret /= 2
		a.Trust /= 2
	}
	return in
}

// stands: would a category alone keep a label from flowing to another one?
func stands(a, b place) bool {
	return a.secret && !b.secret || b.trust && !a.trust
}

// mayFlow asks each category, but for those that are owned.
func mayFlow(a, b api.Label, owned uint64) bool {
	from, to := spreadOf(a), spreadOf(b)
	for c := range from {
		if owned%2 == 0 && stands(from[c], to[c]) {
			return false
		}
		owned /= 2
	}
	return true
}

func secretOnly(s uint64) api.Label { return api.Label{Secret: s} }
func trustOnly(s uint64) api.Label  { return api.Label{Trust: s} }

func edgeSets() []uint64 {
	return []uint64{0, 1, 1 << 63, 1<<63 | 1, 6, 1 << 31, 3 << 31, all, all - 1, all >> 1, all / 3, all &^ math.MaxUint32}
}

// fewLabels: the edges of either set with those of the other one.
func fewLabels() []api.Label {
	var out []api.Label
	for _, secret := range edgeSets() {
		for _, trust := range edgeSets() {
			out = append(out, api.Label{Secret: secret, Trust: trust})
		}
	}
	return out
}

// mixedLabels come by a short rule by which each bit comes and goes.
func mixedLabels(n int) []api.Label {
	out := make([]api.Label, n)
	u := uint64(0x2545f4914f6cdd1d)
	next := func() uint64 {
		u ^= u << 13
		u ^= u >> 7
		u ^= u << 17
		return u
	}
	for i := range out {
		out[i] = api.Label{Secret: next(), Trust: next()}
	}
	return out
}

// threes: three categories each, of which all sets and all labels are tried.
func threes() [][]uint64 {
	return [][]uint64{{0, 1, 2}, {61, 62, 63}, {0, 31, 63}}
}

// setsOf: all eight sets of three categories, with the same others in each.
func setsOf(three []uint64, others uint64) []uint64 {
	out := make([]uint64, 8)
	for i := range out {
		out[i] = others &^ setOfThree(three)
		for k, c := range three {
			out[i] |= uint64(i>>k&1) << c
		}
	}
	return out
}

// labelsOf: all sixty-four labels of three categories, with the same others in each.
func labelsOf(three []uint64, others api.Label) []api.Label {
	var out []api.Label
	for _, secret := range setsOf(three, others.Secret) {
		for _, trust := range setsOf(three, others.Trust) {
			out = append(out, api.Label{Secret: secret, Trust: trust})
		}
	}
	return out
}

func setOfThree(three []uint64) uint64 {
	return 1<<three[0] | 1<<three[1] | 1<<three[2]
}

func TestAllLabelsOfThreeAreSixtyFour(t *testing.T) {
	for _, three := range threes() {
		for _, others := range []api.Label{{}, {Secret: all, Trust: all}} {
			seen := map[api.Label]bool{}
			for _, a := range labelsOf(three, others) {
				seen[a] = true
				if rest := ^setOfThree(three); a.Secret&rest != others.Secret&rest || a.Trust&rest != others.Trust&rest {
					t.Fatalf("%x has others", a)
				}
			}
			if len(seen) != 64 {
				t.Fatalf("%d labels of %v", len(seen), three)
			}
		}
	}
}

// P7.1

func wantFlow(t *testing.T, a, b api.Label, owned uint64) {
	t.Helper()
	if want := mayFlow(a, b, owned); With(a, b, owned) != want {
		t.Fatalf("With(%x, %x, %x) isn't %v", a, b, owned, want)
	}
	if want := mayFlow(a, b, 0); Flows(a, b) != want {
		t.Fatalf("Flows(%x, %x) isn't %v", a, b, want)
	}
}

func TestFlowsExamples(t *testing.T) {
	full := api.Label{Secret: all, Trust: all}
	for _, c := range []struct {
		a, b  api.Label
		owned uint64
		flows bool
		with  bool
	}{
		{secretOnly(2), secretOnly(3), 0, true, true},
		{secretOnly(3), secretOnly(2), 0, false, false},
		{secretOnly(3), secretOnly(2), 1, false, true},
		{secretOnly(3), secretOnly(2), 2, false, false},
		{trustOnly(3), trustOnly(2), 0, true, true},
		{trustOnly(2), trustOnly(3), 0, false, false},
		{trustOnly(2), trustOnly(3), 1, false, true},
		{trustOnly(2), trustOnly(3), all - 1, false, false},
		{api.Label{}, api.Label{}, 0, true, true},
		{full, full, 0, true, true},
		{secretOnly(all), api.Label{}, 0, false, false},
		{secretOnly(all), api.Label{}, all, false, true},
		{secretOnly(all), api.Label{}, all - 1, false, false},
		{api.Label{}, secretOnly(all), 0, true, true},
		{trustOnly(all), api.Label{}, 0, true, true},
		{api.Label{}, trustOnly(all), 0, false, false},
		{api.Label{}, trustOnly(all), all, false, true},
		{api.Label{}, trustOnly(all), all >> 1, false, false},
		{secretOnly(all), trustOnly(all), all, false, true},
		{trustOnly(all), secretOnly(all), 0, true, true},
		{secretOnly(1), trustOnly(1), 1, false, true},
		{secretOnly(1), trustOnly(2), 1, false, false},
		{secretOnly(1), trustOnly(2), 2, false, false},
		{secretOnly(1), trustOnly(2), 3, false, true},
		{secretOnly(1 << 63), secretOnly(1), 1 << 63, false, true},
		{secretOnly(1), secretOnly(1 << 63), 1 << 63, false, false},
		{api.Label{Secret: 1, Trust: 8}, api.Label{Secret: 2, Trust: 24}, 17, false, true},
		{api.Label{Secret: 1, Trust: 8}, api.Label{Secret: 2, Trust: 24}, 16, false, false},
		{api.Label{Secret: 1, Trust: 8}, api.Label{Secret: 2, Trust: 24}, 1, false, false},
	} {
		if Flows(c.a, c.b) != c.flows || With(c.a, c.b, c.owned) != c.with {
			t.Errorf("%x to %x is %v, and with %x %v", c.a, c.b, !c.flows, c.owned, !c.with)
		}
	}
}

func TestFlowsAndWithOfAllLabelsOfThree(t *testing.T) {
	for _, three := range threes() {
		for _, others := range []api.Label{{}, {Secret: all, Trust: all}} {
			labels := labelsOf(three, others)
			for _, a := range labels {
				for _, b := range labels {
					for _, owned := range setsOf(three, 0) {
						wantFlow(t, a, b, owned)
						wantFlow(t, a, b, owned|^setOfThree(three))
					}
				}
			}
		}
	}
}

func TestFlowsAndWithAtTheEdges(t *testing.T) {
	for _, a := range fewLabels() {
		for _, b := range fewLabels() {
			for _, owned := range []uint64{0, 1, 1 << 63, all / 3, all} {
				wantFlow(t, a, b, owned)
			}
		}
	}
}

func TestOneCategoryDecides(t *testing.T) {
	for c := range 64 {
		bit := uint64(1) << c
		for _, a := range slices.Concat(fewLabels(), mixedLabels(20)) {
			more, less := a, a
			more.Secret, less.Secret = a.Secret|bit, a.Secret&^bit
			wantOneWay(t, less, more, bit)
			more, less = a, a
			more.Trust, less.Trust = a.Trust|bit, a.Trust&^bit
			wantOneWay(t, more, less, bit)
		}
	}
}

// wantOneWay: between the two lies one category alone.
func wantOneWay(t *testing.T, low, high api.Label, bit uint64) {
	t.Helper()
	if !Flows(low, high) || Flows(high, low) || Need(low, high) != 0 || Need(high, low) != bit {
		t.Fatalf("%x and %x differ by %x", low, high, bit)
	}
	if With(high, low, 0) || With(high, low, ^bit) || !With(high, low, bit) || !With(high, low, all) || !With(low, high, 0) {
		t.Fatalf("from %x to %x, with %x", high, low, bit)
	}
}

func TestNeedExamples(t *testing.T) {
	for _, c := range []struct {
		a, b api.Label
		want uint64
	}{
		{api.Label{}, api.Label{}, 0},
		{api.Label{Secret: all, Trust: all}, api.Label{Secret: all, Trust: all}, 0},
		{secretOnly(2), secretOnly(3), 0},
		{secretOnly(3), secretOnly(2), 1},
		{trustOnly(4), api.Label{}, 0},
		{api.Label{}, trustOnly(4), 4},
		{api.Label{Secret: 1, Trust: 8}, api.Label{Secret: 2, Trust: 24}, 17},
		{api.Label{Secret: 1}, api.Label{Trust: 1}, 1},
		{api.Label{Secret: 6, Trust: 6}, api.Label{Secret: 4, Trust: 14}, 10},
		{secretOnly(all), api.Label{}, all},
		{api.Label{}, trustOnly(all), all},
		{secretOnly(all &^ math.MaxUint32), trustOnly(all >> 32), all},
		{api.Label{}, secretOnly(all), 0},
		{trustOnly(all), api.Label{}, 0},
		{secretOnly(1 << 63), trustOnly(1), 1<<63 | 1},
	} {
		if got := Need(c.a, c.b); got != c.want {
			t.Errorf("Need(%x, %x) is %x, not %x", c.a, c.b, got, c.want)
		}
	}
}

// TestNeedIsTheLeastSet: just those that have all of it are enough.
func TestNeedIsTheLeastSet(t *testing.T) {
	for _, three := range threes() {
		labels := labelsOf(three, api.Label{Secret: 1 << 10, Trust: 1 << 20})
		for _, a := range labels {
			for _, b := range labels {
				need := Need(a, b)
				for _, owned := range setsOf(three, 0) {
					if enough := need|owned == owned; mayFlow(a, b, owned) != enough {
						t.Fatalf("Need(%x, %x) is %x, and with %x it flows: %v", a, b, need, owned, !enough)
					}
				}
			}
		}
	}
}

func TestNeedIsJustEnough(t *testing.T) {
	labels := slices.Concat(fewLabels(), mixedLabels(20))
	for _, a := range labels {
		for _, b := range labels {
			need := Need(a, b)
			if !mayFlow(a, b, need) || !With(a, b, need) || !With(a, b, all) {
				t.Fatalf("Need(%x, %x) is %x: too few", a, b, need)
			}
			if (need == 0) != Flows(a, b) || need != 0 && With(a, b, ^need) {
				t.Fatalf("Need(%x, %x) is %x, and without it flows", a, b, need)
			}
			if neither := ^(a.Secret | a.Trust | b.Secret | b.Trust); With(a, b, neither) != Flows(a, b) {
				t.Fatalf("With(%x, %x) hangs on %x, which neither has", a, b, neither)
			}
			for _, c := range set.List(need) {
				if mayFlow(a, b, need&^(1<<c)) || With(a, b, need&^(1<<c)) {
					t.Fatalf("Need(%x, %x) is %x: one too many, %d", a, b, need, c)
				}
			}
		}
	}
}

// TestJoinAndMeetAmongAllLabels holds each against all labels of three categories.
func TestJoinAndMeetAmongAllLabels(t *testing.T) {
	for _, three := range threes() {
		for _, others := range []api.Label{{}, {Secret: 1 << 10, Trust: 1 << 20}, {Secret: all, Trust: all}} {
			labels := labelsOf(three, others)
			flows := map[[2]api.Label]bool{}
			for _, a := range labels {
				for _, b := range labels {
					flows[[2]api.Label{a, b}] = mayFlow(a, b, 0)
				}
			}
			to := func(a, b api.Label) bool { return flows[[2]api.Label{a, b}] }
			for _, a := range labels {
				for _, b := range labels {
					wantLeast(t, a, b, labels, to)
				}
			}
		}
	}
}

func wantLeast(t *testing.T, a, b api.Label, labels []api.Label, to func(a, b api.Label) bool) {
	t.Helper()
	join, meet := Join(a, b), Meet(a, b)
	if !slices.Contains(labels, join) || !slices.Contains(labels, meet) {
		t.Fatalf("%x and %x: %x and %x have other categories", a, b, join, meet)
	}
	if !to(a, join) || !to(b, join) || !to(meet, a) || !to(meet, b) {
		t.Fatalf("%x and %x: Join is %x, Meet is %x", a, b, join, meet)
	}
	for _, c := range labels {
		if to(a, c) && to(b, c) && !to(join, c) {
			t.Fatalf("Join(%x, %x) is %x, and doesn't flow to %x", a, b, join, c)
		}
		if to(c, a) && to(c, b) && !to(c, meet) {
			t.Fatalf("Meet(%x, %x) is %x, and %x doesn't flow to it", a, b, meet, c)
		}
	}
}

func TestJoinAndMeetOfEachCategory(t *testing.T) {
	labels := slices.Concat(fewLabels(), mixedLabels(20))
	for _, a := range labels {
		for _, b := range labels {
			var join, meet spread
			one, other := spreadOf(a), spreadOf(b)
			for c := range one {
				join[c] = place{one[c].secret || other[c].secret, one[c].trust && other[c].trust}
				meet[c] = place{one[c].secret && other[c].secret, one[c].trust || other[c].trust}
			}
			if Join(a, b) != join.label() || Meet(a, b) != meet.label() {
				t.Fatalf("%x and %x: Join is %x, Meet is %x", a, b, Join(a, b), Meet(a, b))
			}
		}
	}
}

func TestJoinAndMeetExamples(t *testing.T) {
	full := api.Label{Secret: all, Trust: all}
	for _, c := range []struct{ a, b, join, meet api.Label }{
		{api.Label{}, api.Label{}, api.Label{}, api.Label{}},
		{full, full, full, full},
		{api.Label{}, full, secretOnly(all), trustOnly(all)},
		{secretOnly(all), trustOnly(all), secretOnly(all), trustOnly(all)},
		{api.Label{Secret: 1, Trust: 8}, api.Label{Secret: 2, Trust: 24}, api.Label{Secret: 3, Trust: 8}, api.Label{Secret: 0, Trust: 24}},
		{api.Label{Secret: 1, Trust: 1 << 63}, api.Label{Secret: 1 << 63, Trust: 1}, secretOnly(1<<63 | 1), trustOnly(1<<63 | 1)},
		{secretOnly(1), secretOnly(3), secretOnly(3), secretOnly(1)},
		{trustOnly(1), trustOnly(3), trustOnly(1), trustOnly(3)},
	} {
		if Join(c.a, c.b) != c.join || Join(c.b, c.a) != c.join {
			t.Errorf("Join(%x, %x) is %x, not %x", c.a, c.b, Join(c.a, c.b), c.join)
		}
		if Meet(c.a, c.b) != c.meet || Meet(c.b, c.a) != c.meet {
			t.Errorf("Meet(%x, %x) is %x, not %x", c.a, c.b, Meet(c.a, c.b), c.meet)
		}
	}
}

func TestRaiseExamples(t *testing.T) {
	full := api.Label{Secret: all, Trust: all}
	for _, c := range []struct {
		a                api.Label
		secret, distrust uint64
		want             api.Label
	}{
		{api.Label{Secret: 1, Trust: 6}, 4, 2, api.Label{Secret: 5, Trust: 4}},
		{api.Label{Secret: 1, Trust: 6}, 1, 8, api.Label{Secret: 1, Trust: 6}},
		{api.Label{Secret: 1, Trust: 6}, 3, 3, api.Label{Secret: 3, Trust: 4}},
		{api.Label{Secret: 1, Trust: 6}, 0, 0, api.Label{Secret: 1, Trust: 6}},
		{api.Label{}, 0, 0, api.Label{}},
		{api.Label{}, all, 0, secretOnly(all)},
		{api.Label{}, 0, all, api.Label{}},
		{api.Label{}, all, all, secretOnly(all)},
		{full, 0, 0, full},
		{full, all, 0, full},
		{full, 0, all, secretOnly(all)},
		{full, 0, 1, api.Label{Secret: all, Trust: all - 1}},
		{full, 0, 1 << 63, api.Label{Secret: all, Trust: all >> 1}},
		{trustOnly(all), 1 << 63, 1, api.Label{Secret: 1 << 63, Trust: all - 1}},
		{trustOnly(1), 1, 0, api.Label{Secret: 1, Trust: 1}},
		{secretOnly(1), 0, 1, secretOnly(1)},
	} {
		if got := Raise(c.a, c.secret, c.distrust); got != c.want {
			t.Errorf("Raise(%x, %x, %x) is %x, not %x", c.a, c.secret, c.distrust, got, c.want)
		}
	}
}

func TestRaiseOfEachCategory(t *testing.T) {
	for _, a := range slices.Concat(fewLabels(), mixedLabels(20)) {
		for _, more := range fewLabels() {
			in, sets := spreadOf(a), spreadOf(more)
			for c := range in {
				in[c] = place{in[c].secret || sets[c].secret, in[c].trust && !sets[c].trust}
			}
			raised := Raise(a, more.Secret, more.Trust)
			if raised != in.label() {
				t.Fatalf("Raise(%x, %x, %x) is %x, not %x", a, more.Secret, more.Trust, raised, in.label())
			}
			if !Flows(a, raised) || Raise(raised, more.Secret, more.Trust) != raised {
				t.Fatalf("%x raised is %x", a, raised)
			}
		}
	}
}

// P7.2

// bytesOf: a label's bytes by division.
func bytesOf(a api.Label) []byte {
	var b []byte
	for _, s := range []uint64{a.Secret, a.Trust} {
		for range 8 {
			b = append(b, byte(s%256))
			s /= 256
		}
	}
	return b
}

func wantBytes(t *testing.T, a api.Label, b []byte) {
	t.Helper()
	if got := Bytes(a); !bytes.Equal(got, b) {
		t.Fatalf("Bytes(%x) is %x, not %x", a, got, b)
	}
	if got, ok := From(b); !ok || got != a {
		t.Fatalf("From(%x) is %x, %v, not %x", b, got, ok, a)
	}
}

func TestBytesAndFrom(t *testing.T) {
	for _, a := range slices.Concat(fewLabels(), mixedLabels(500)) {
		wantBytes(t, a, bytesOf(a))
	}
	wantBytes(t, api.Label{Secret: 0x0807060504030201, Trust: 0x100f0e0d0c0b0a09}, []byte{1, 2, 3, 4, 5, 6, 7, 8, 9, 10, 11, 12, 13, 14, 15, 16})
	wantBytes(t, api.Label{Secret: 0x0102, Trust: 3}, []byte{2, 1, 0, 0, 0, 0, 0, 0, 3, 0, 0, 0, 0, 0, 0, 0})
	wantBytes(t, api.Label{Secret: all}, []byte("\xff\xff\xff\xff\xff\xff\xff\xff\x00\x00\x00\x00\x00\x00\x00\x00"))
	wantBytes(t, api.Label{Trust: 1 << 63}, []byte("\x00\x00\x00\x00\x00\x00\x00\x00\x00\x00\x00\x00\x00\x00\x00\x80"))
}

func TestEachByteAlone(t *testing.T) {
	for at := range 16 {
		for x := range 256 {
			b := make([]byte, 16)
			b[at] = byte(x)
			want := secretOnly(uint64(x) << (8 * (at % 8)))
			if at >= 8 {
				want = trustOnly(want.Secret)
			}
			wantBytes(t, want, b)
		}
	}
}

func TestFromOfOtherLengths(t *testing.T) {
	for _, x := range []byte{0, 1, 255} {
		for n := range 100 {
			got, ok := From(bytes.Repeat([]byte{x}, n))
			if n != 16 && (ok || got != api.Label{}) {
				t.Errorf("From of %d bytes is %x, %v", n, got, ok)
			}
			if n == 16 && !ok {
				t.Error("From of 16 bytes is nothing")
			}
		}
	}
	if got, ok := From(nil); ok || got != (api.Label{}) {
		t.Errorf("From(nil) is %x, %v", got, ok)
	}
	for _, a := range fewLabels() {
		b := Bytes(a)
		for _, wrong := range [][]byte{b[:15], b[1:], append(b, 0), append([]byte{0}, b...), append(b, b...)} {
			if got, ok := From(wrong); ok || got != (api.Label{}) {
				t.Errorf("From(%x) is %x, %v", wrong, got, ok)
			}
		}
	}
}

func TestShowAndReadExamples(t *testing.T) {
	for _, c := range []struct {
		a    api.Label
		text string
	}{
		{api.Label{}, "s:none t:none"},
		{secretOnly(2), "s:1 t:none"},
		{secretOnly(3), "s:0-1 t:none"},
		{trustOnly(1), "s:none t:0"},
		{api.Label{Secret: 3, Trust: 4}, "s:0-1 t:2"},
		{api.Label{Secret: 4, Trust: 3}, "s:2 t:0-1"},
		{api.Label{Secret: 1 << 63, Trust: 5}, "s:63 t:0,2"},
		{api.Label{Secret: 11, Trust: 3<<62 | 1<<10}, "s:0-1,3 t:10,62-63"},
		{api.Label{Secret: all, Trust: all}, "s:0-63 t:0-63"},
		{secretOnly(all), "s:0-63 t:none"},
		{trustOnly(all), "s:none t:0-63"},
		{api.Label{Secret: 1, Trust: 1 << 63}, "s:0 t:63"},
	} {
		if got := Show(c.a); got != c.text {
			t.Errorf("Show(%x) is %q, not %q", c.a, got, c.text)
		}
		if got, ok := Read(c.text); !ok || got != c.a {
			t.Errorf("Read(%q) is %x, %v, not %x", c.text, got, ok, c.a)
		}
	}
}

func TestShowAndRead(t *testing.T) {
	labels := slices.Concat(fewLabels(), mixedLabels(1000))
	for _, three := range threes() {
		labels = append(labels, labelsOf(three, api.Label{Trust: all})...)
	}
	for _, a := range labels {
		text := strings.Join([]string{"s:", set.Show(a.Secret), " t:", set.Show(a.Trust)}, "")
		if got := Show(a); got != text {
			t.Fatalf("Show(%x) is %q, not %q", a, got, text)
		}
		if got, ok := Read(text); !ok || got != a {
			t.Fatalf("Read(%q) is %x, %v, not %x", text, got, ok, a)
		}
	}
}

func wrongLabelTexts() []string {
	return []string{
		"", " ", ":", "::", "s", "s:", "t:", " t:", "s: t:", "s: t:1", "s:1 t:", "s:1", "t:1", "s:1 ", "s:1 t", " t:1", "none", "1", "1 2", "1 t:2", "s:1 2", "s1 t2", "s:none", "t:none", "none none",
		"t:1 s:2", "t:none s:none", "s:1 s:2", "t:1 t:2", "s:1 u:2", "r:1 t:2", "S:1 t:2", "s:1 T:2", "S:1 T:2", "s;1 t:2", "s:1 t;2", "s=1 t=2", "secret:1 trust:2",
		" s:1 t:2", "s:1 t:2 ", "s:1  t:2", "s: 1 t:2", "s:1 t: 2", "s :1 t:2", "s:1 t :2", "s:1t:2", "s:1\tt:2", "s:1\nt:2", "s:1 t:2\n", "s:1 t:2\r\n", "\ns:1 t:2", "s:1 t:2\x00", "\x00s:1 t:2", "s:1\u00a0t:2", "s:1,t:2", "s:1, t:2", "s:1 ,t:2", "s:1 t:2,",
		"s:s:1 t:2", "s:1 t:t:2", "s:1 t:2 t:2", "s:1 t:1 t:2", "s:1 t:2 t:", "s:1 t: t:2", "s:1 s:1 t:2", "s:1 t:2 s:1", "s:1 t:2s:1 t:2", "s:1 t:2 s:1 t:2", "s::1 t:2", "s:1 t::2", "s:1: t:2", "s:1 t:2:", ":s:1 t:2", "s:1 :t:2",
		"\xff:1 t:2", "s:\xff t:2", "s:1 \xff:2", "s:1 t:\xff", "\xffs:1 t:2", "s:1 t:2\xff", "s:1\x80 t:2", "s\uff1a1 t:2", "s:1 t\uff1a2", "s:\uff11 t:2", "s:1 t:\u0662",
		strings.Repeat("s:", 1000), strings.Repeat(" t:", 1000), strings.Repeat("s:1 t:2", 1000), strings.Repeat("s:1 t:2 ", 1000),
	}
}

// wrongSetTexts: told otherwise than layer 6 shows a set, or none at all.
func wrongSetTexts() []string {
	return []string{
		"", " ", "none,1", "1,none", "None", "NONE", "non", "nonenone", "none ", " none", "empty", "{}", "-", ",",
		"64", "100", "-1", "+1", "01", "00", "1.0", "0x1", "a", "1a", "0-64", "18446744073709551616", "18446744073709551617",
		"1-1", "2-1", "0,1", "1,0", "1,1", "0-1,2", "0,1-2", "0-1,1", "0-2,1-3", "3,0-1", "0-1-2", "0-", "-0", "0,", ",0", "0,,2", "0, 2", "0 - 1", "0--1",
	}
}

func TestReadOfWrongTexts(t *testing.T) {
	texts := wrongLabelTexts()
	for _, wrong := range wrongSetTexts() {
		for _, right := range []string{"none", "0", "0-1,3", "0-63", wrong} {
			texts = append(texts, "s:"+wrong+" t:"+right, "s:"+right+" t:"+wrong)
		}
	}
	for _, text := range texts {
		if got, ok := Read(text); ok || got != (api.Label{}) {
			t.Errorf("Read(%q) is %x, %v", text, got, ok)
		}
	}
}

// textForm takes each text apart in at most one way: no set's text has a blank or a colon.
var textForm = regexp.MustCompile(`\As:([0-9,-]+|none) t:([0-9,-]+|none)\z`)

func wantStrictly(t *testing.T, text string) {
	t.Helper()
	var want api.Label
	right := false
	if parts := textForm.FindStringSubmatch(text); parts != nil {
		secret, secretOK := set.Read(parts[1])
		trust, trustOK := set.Read(parts[2])
		if secretOK && trustOK {
			want, right = api.Label{Secret: secret, Trust: trust}, true
		}
	}
	if got, ok := Read(text); ok != right || got != want {
		t.Errorf("Read(%q) is %x, %v, not %x, %v", text, got, ok, want, right)
	}
}

// TestReadOfTextsNearby takes right texts and puts, in place of each byte, ahead of it and behind the last one, each other byte, or none.
func TestReadOfTextsNearby(t *testing.T) {
	for _, text := range []string{"s:none t:none", "s:0-1 t:2", "s:2 t:none", "s:none t:62-63", "s:10,62-63 t:0-1,3", "s:0-63 t:9", "s:1,3 t:5-7,9"} {
		for at := range len(text) + 1 {
			behind := text[min(at+1, len(text)):]
			wantStrictly(t, text[:at]+behind)
			for x := range 256 {
				one := string([]byte{byte(x)})
				wantStrictly(t, text[:at]+one+behind)
				wantStrictly(t, text[:at]+one+text[at:])
			}
		}
	}
}

// TestReadOfPiecesInAnyOrder: each text of up to five pieces of those of which texts are made.
func TestReadOfPiecesInAnyOrder(t *testing.T) {
	texts := []string{""}
	for range 5 {
		var longer []string
		for _, text := range texts {
			wantStrictly(t, text)
			for _, piece := range []string{"s:", "t:", " t:", " ", "none", "0", "2", "0-1", ",", ":", "s"} {
				longer = append(longer, text+piece)
			}
		}
		texts = longer
	}
	for _, text := range texts {
		wantStrictly(t, text)
	}
}

// P7.3

func TestFlowingIsAnOrder(t *testing.T) {
	for _, three := range threes() {
		for _, others := range []api.Label{{}, {Secret: all, Trust: all}} {
			wantOrder(t, labelsOf(three, others))
		}
	}
	wantOrder(t, fewLabels())
	wantOrder(t, mixedLabels(50))
}

func wantOrder(t *testing.T, labels []api.Label) {
	t.Helper()
	for _, a := range labels {
		if !Flows(a, a) {
			t.Fatalf("%x doesn't flow to itself", a)
		}
		for _, b := range labels {
			if a != b && Flows(a, b) && Flows(b, a) {
				t.Fatalf("%x and %x flow to each other", a, b)
			}
			for _, c := range labels {
				if Flows(a, b) && Flows(b, c) && !Flows(a, c) {
					t.Fatalf("%x flows to %x, and that to %x", a, b, c)
				}
			}
		}
	}
}

// TestFlowingAlongChains: labels mixed at will seldom flow, so that these are raised from one another.
func TestFlowingAlongChains(t *testing.T) {
	mixed := mixedLabels(300)
	for i, a := range mixed {
		first, second := mixed[(i+1)%300], mixed[(i+2)%300]
		b := Raise(a, first.Secret, first.Trust)
		c := Raise(b, second.Secret, second.Trust)
		if !Flows(a, b) || !Flows(b, c) || !Flows(a, c) || a != b && Flows(b, a) || b != c && Flows(c, b) || a != c && Flows(c, a) {
			t.Errorf("%x, %x, %x", a, b, c)
		}
	}
}

func TestNeitherFlowsToTheOther(t *testing.T) {
	for _, c := range []struct{ a, b api.Label }{
		{secretOnly(1), secretOnly(2)},
		{secretOnly(1), secretOnly(1 << 63)},
		{trustOnly(1), trustOnly(2)},
		{trustOnly(1 << 63), trustOnly(1)},
		{api.Label{Secret: 1, Trust: 1}, api.Label{}},
		{api.Label{Secret: all, Trust: all}, api.Label{}},
		{api.Label{Secret: 1, Trust: 6}, api.Label{Secret: 5, Trust: 14}},
	} {
		if Flows(c.a, c.b) || Flows(c.b, c.a) {
			t.Errorf("%x and %x", c.a, c.b)
		}
	}
}

func TestWithMoreNothingFlowsLess(t *testing.T) {
	for _, three := range threes() {
		labels, sets := labelsOf(three, api.Label{Trust: 1 << 5}), setsOf(three, 0)
		for _, a := range labels {
			for _, b := range labels {
				for _, owned := range sets {
					for _, more := range sets {
						if With(a, b, owned) && !With(a, b, owned|more) {
							t.Fatalf("%x flows to %x with %x, and not with %x more", a, b, owned, more)
						}
					}
				}
			}
		}
	}
	for _, a := range fewLabels() {
		for _, b := range mixedLabels(50) {
			for _, owned := range []uint64{0, Need(a, b), Need(b, a), a.Secret, b.Trust} {
				for _, more := range edgeSets() {
					if With(a, b, owned) && !With(a, b, owned|more) {
						t.Fatalf("%x flows to %x with %x, and not with %x more", a, b, owned, more)
					}
				}
			}
		}
	}
}

func TestWhatIsHandedInStays(t *testing.T) {
	for n := range 40 {
		whole := append(bytes.Repeat([]byte{5}, n), 6, 7, 8)
		kept := slices.Clone(whole)
		From(whole[:n])
		if !bytes.Equal(whole, kept) {
			t.Errorf("%d bytes were changed: %v", n, whole)
		}
	}
}

func TestWhatIsHandedInIsNotKept(t *testing.T) {
	b := bytesOf(api.Label{Secret: 3, Trust: 4})
	a, ok := From(b)
	for i := range b {
		b[i] = 0xff
	}
	if !ok || a != (api.Label{Secret: 3, Trust: 4}) {
		t.Errorf("From's label goes with its bytes: %x, %v", a, ok)
	}
}

func TestWhatIsAnsweredIsNew(t *testing.T) {
	for _, a := range slices.Concat(fewLabels(), mixedLabels(20)) {
		first, second := Bytes(a), Bytes(a)
		// Over all of the first one's memory, its spare room too.
		first = first[:cap(first)]
		for i := range first {
			first[i] = 0x5a
		}
		if !bytes.Equal(second, bytesOf(a)) || !bytes.Equal(Bytes(a), bytesOf(a)) {
			t.Errorf("answers of Bytes(%x) share memory", a)
		}
	}
}

// P1

func TestNoCallPanics(t *testing.T) {
	labels := slices.Concat(fewLabels(), mixedLabels(10))
	for _, a := range labels {
		for _, b := range labels {
			Need(a, b)
			Join(a, b)
			Meet(a, b)
			With(a, b, a.Trust)
			Raise(a, b.Secret, b.Trust)
		}
		Show(a)
		Bytes(a)
	}
	for _, text := range []string{
		"s:" + strings.Repeat("0", 1<<20) + " t:0", "s:0 t:" + strings.Repeat("9", 1<<20), "s:" + strings.Repeat(",", 1<<20) + " t:" + strings.Repeat("-", 1<<20),
		strings.Repeat("s:0-63 t:0-63", 1<<16), strings.Repeat(" t:", 1<<20), strings.Repeat("s:", 1<<20), strings.Repeat("\xff", 1<<20), string(make([]byte, 1<<20)),
		"s:0" + strings.Repeat(" ", 1<<20) + "t:0", strings.Repeat("s", 1<<20), strings.Repeat(":", 1<<20),
	} {
		if a, ok := Read(text); ok || a != (api.Label{}) {
			t.Errorf("a long text is %x, %v", a, ok)
		}
		if a, ok := From([]byte(text)); ok || a != (api.Label{}) {
			t.Errorf("many bytes are %x, %v", a, ok)
		}
	}
}

func FuzzLabel(f *testing.F) {
	f.Add("s:0-1 t:2", []byte("\x02\x01\x00\x00\x00\x00\x00\x00\x03\x00\x00\x00\x00\x00\x00\x00"), uint64(3), uint64(2), uint64(1))
	f.Add("s:none t:none", []byte{}, uint64(0), uint64(0), uint64(0))
	f.Add("s:0-63 t:10,62-63", bytes.Repeat([]byte{255}, 17), all, uint64(1<<63), all-1)
	f.Fuzz(func(t *testing.T, text string, b []byte, secret, trust, owned uint64) {
		wantStrictly(t, text)
		got, ok := From(b)
		if ok != (len(b) == 16) || ok && !bytes.Equal(Bytes(got), b) || !ok && got != (api.Label{}) {
			t.Errorf("From(%x) is %x, %v", b, got, ok)
		}
		a := api.Label{Secret: secret, Trust: trust}
		wantBytes(t, a, bytesOf(a))
		if back, ok := Read(Show(a)); !ok || back != a {
			t.Errorf("Read(%q) is %x, %v", Show(a), back, ok)
		}
		wantFlow(t, a, got, owned)
		wantFlow(t, got, a, owned)
		wantFlow(t, a, Join(a, got), 0)
		if !Flows(a, Join(a, got)) || !Flows(Meet(a, got), got) || !Flows(a, Raise(a, owned, got.Trust)) {
			t.Error("Join, Meet, or Raise")
		}
		if need := Need(a, got); mayFlow(a, got, owned) != (need|owned == owned) {
			t.Errorf("Need(%x, %x) is %x", a, got, need)
		}
	})
}
