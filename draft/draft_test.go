package draft

import (
	"math"
	"slices"
	"strconv"
	"strings"
	"testing"

	"concordat/api"
	"concordat/rec"
)

func val(n int) api.Val { return api.Val{There: true, N: n} }

func keyOf(name string) api.Key { return api.Key{name[0]} }

// listOf: pairs from words: a1 is a key with the number 1, a- with nothing, a?1 with a 1 that isn't There.
func listOf(words string) []Pair {
	var list []Pair
	for _, word := range strings.Fields(words) {
		p := Pair{Key: keyOf(word)}
		if word[1] != '-' {
			p.Val.There = word[1] != '?'
			p.Val.N, _ = strconv.Atoi(strings.TrimPrefix(word[1:], "?"))
		}
		list = append(list, p)
	}
	return list
}

func keysOf(names string) []api.Key {
	var keys []api.Key
	for _, name := range strings.Split(names, "") {
		keys = append(keys, keyOf(name))
	}
	return keys
}

func wantPut(t *testing.T, d *Draft, m *model, k api.Key, v api.Val, want api.Errno) {
	t.Helper()
	if got := d.Put(k, v); got != want || m.put(k, v) != want {
		t.Fatalf("Put(%v, %v) is %v, not %v", k, v, got, want)
	}
}

// made: a draft into which pairs were put, all of them right.
func made(t *testing.T, list []Pair) (*Draft, *model) {
	t.Helper()
	d, m := New(), &model{}
	if d == nil {
		t.Fatal("New is nil")
	}
	for _, p := range list {
		wantPut(t, d, m, p.Key, p.Val, api.OK)
	}
	return d, m
}

func wantPairs(t *testing.T, got []Pair, want string) {
	t.Helper()
	if list := listOf(want); !slices.Equal(got, list) {
		t.Errorf("it is %v, not %v", got, list)
	}
}

// sixteen keys, by their bytes: neighbours differ in the first byte, in the last, and between.
func sixteen() []api.Key {
	return []api.Key{
		{}, {0, 0, 0, 1}, {0, 0, 0, 127}, {0, 0, 0, 128}, {0, 0, 0, 255}, {0, 0, 1}, {0, 0, 255}, {0, 1},
		{0, 255, 255, 255}, {1}, {1, 0, 0, 255}, {127, 255, 255, 255}, {128}, {255}, {255, 255, 255, 254}, {255, 255, 255, 255},
	}
}

func others() []api.Key {
	return []api.Key{{0, 0, 0, 2}, {0, 0, 0, 254}, {0, 255}, {1, 0, 0, 1}, {2}, {97}, {127}, {129}, {254}, {255, 0, 0, 1}, {255, 255, 255}}
}

func allKeys() []api.Key { return append(sixteen(), others()...) }

func rightVals() []api.Val {
	return []api.Val{{}, val(0), val(1), val(-1), val(1 << 32), val(math.MinInt), val(math.MaxInt)}
}

func wrongVals() []api.Val {
	var list []api.Val
	for _, n := range []int{1, -1, 2, 255, 256, 1 << 31, 1 << 32, -1 << 32, 1 << 62, math.MinInt, math.MinInt + 1, math.MaxInt} {
		list = append(list, api.Val{N: n})
	}
	return list
}

// full: a draft of so many of the sixteen keys: numbers, and nothing here and there.
func full(t *testing.T, n int) (*Draft, *model) {
	t.Helper()
	var list []Pair
	for i, k := range sixteen()[:n] {
		p := Pair{Key: k, Val: val(i)}
		if i%5 == 3 {
			p.Val = api.Val{}
		}
		list = append(list, p)
	}
	return made(t, list)
}

// P9.1

func TestTheExample(t *testing.T) {
	d, m := made(t, listOf("a- b2"))
	wantPairs(t, d.Over(listOf("a1")), "b2")
	wantBase(t, d, m, 1, listOf("a1"), keysOf("abc"))
}

func TestAnEmptyDraft(t *testing.T) {
	d, m := made(t, nil)
	if d.Count() != 0 || len(d.Pairs()) != 0 || len(d.Over(nil)) != 0 || len(d.Recs(1, nil)) != 0 {
		t.Errorf("it has %v", d.Pairs())
	}
	for _, k := range allKeys() {
		if v, ok := d.Get(k); ok || v != (api.Val{}) {
			t.Errorf("Get(%v) is %v, %v", k, v, ok)
		}
	}
	for _, base := range []string{"", "a1", "c3 a1 c- b?5 a2"} {
		wantBase(t, d, m, 1, listOf(base), allKeys())
	}
	wantPairs(t, d.Over(listOf("c3 a1 c- d4 b?5 a2")), "a2 d4")
}

func TestHowManyKeys(t *testing.T) {
	if MaxWrites != 16 {
		t.Errorf("MaxWrites is %d", MaxWrites)
	}
	for n := range 17 {
		d, m := full(t, n)
		wantDraft(t, d, m, allKeys())
		if d.Count() != n || len(d.Pairs()) != n || len(d.Recs(1, nil)) != n {
			t.Errorf("%d, not %d", d.Count(), n)
		}
		want := api.OK
		if n == 16 {
			want = api.ErrMany
		}
		for i, v := range []api.Val{val(7), {}, val(0)} {
			d, m := full(t, n)
			wantPut(t, d, m, others()[i], v, want)
			wantDraft(t, d, m, allKeys())
		}
	}
}

func TestPutIntoAFullDraft(t *testing.T) {
	d, m := full(t, 16)
	for _, k := range sixteen() {
		for _, v := range rightVals() {
			wantPut(t, d, m, k, v, api.OK)
			wantPut(t, d, m, others()[0], v, api.ErrMany)
			wantDraft(t, d, m, allKeys())
		}
	}
	// One that was put to nothing is a key still.
	for _, k := range sixteen() {
		wantPut(t, d, m, k, api.Val{}, api.OK)
		wantPut(t, d, m, others()[1], val(1), api.ErrMany)
	}
	wantDraft(t, d, m, allKeys())
	if d.Count() != 16 || len(d.Pairs()) != 16 {
		t.Errorf("it has %v", d.Pairs())
	}
	wantPut(t, d, m, sixteen()[4], val(5), api.OK)
	wantDraft(t, d, m, allKeys())
}

func TestPutAgain(t *testing.T) {
	for _, first := range rightVals() {
		for _, second := range rightVals() {
			for _, third := range rightVals() {
				d, m := New(), &model{}
				for _, v := range []api.Val{first, second, third} {
					wantPut(t, d, m, api.Key{1}, v, api.OK)
					if got, ok := d.Get(api.Key{1}); got != v || !ok || d.Count() != 1 {
						t.Fatalf("%v was put: Get is %v, %v, and Count %d", v, got, ok, d.Count())
					}
				}
				wantDraft(t, d, m, allKeys())
			}
		}
	}
}

func TestGet(t *testing.T) {
	d, _ := made(t, listOf("a- b0 c1"))
	for _, c := range []struct {
		name string
		want api.Val
		ok   bool
	}{{"a", api.Val{}, true}, {"b", val(0), true}, {"c", val(1), true}, {"d", api.Val{}, false}, {"A", api.Val{}, false}} {
		if v, ok := d.Get(keyOf(c.name)); v != c.want || ok != c.ok {
			t.Errorf("Get of %s is %v, %v", c.name, v, ok)
		}
	}
	// To ask for a key doesn't make it one.
	if d.Count() != 3 {
		t.Errorf("Count is %d", d.Count())
	}
	wantPairs(t, d.Pairs(), "a- b0 c1")
}

func TestPutOfWrongValues(t *testing.T) {
	for _, n := range []int{0, 1, 2, 15, 16} {
		for _, v := range wrongVals() {
			d, m := full(t, n)
			for _, k := range allKeys() {
				wantPut(t, d, m, k, v, api.ErrForm)
			}
			wantDraft(t, d, m, allKeys())
			wantBase(t, d, m, 1, listOf("a1 b- c?3"), allKeys())
		}
	}
}

func TestPutOfWrongValuesAmongRightOnes(t *testing.T) {
	d, m := made(t, nil)
	for i, k := range allKeys() {
		want := api.OK
		if i >= 16 {
			want = api.ErrMany
		}
		wantPut(t, d, m, k, wrongVals()[i%len(wrongVals())], api.ErrForm)
		wantPut(t, d, m, k, rightVals()[i%len(rightVals())], want)
		wantPut(t, d, m, k, wrongVals()[i%len(wrongVals())], api.ErrForm)
		wantDraft(t, d, m, allKeys())
	}
}

// orders calls with each order of keys; the list that it hands on is its own.
func orders(keys []api.Key, from int, with func([]api.Key)) {
	if from == len(keys) {
		with(keys)
	}
	for i := from; i < len(keys); i++ {
		keys[from], keys[i] = keys[i], keys[from]
		orders(keys, from+1, with)
		keys[from], keys[i] = keys[i], keys[from]
	}
}

func TestPairsStandByTheirBytes(t *testing.T) {
	want := []api.Key{{}, {0, 0, 0, 255}, {0, 1}, {1}, {1, 0, 0, 1}, {255}}
	orders(slices.Clone(want), 0, func(keys []api.Key) {
		d, m := New(), &model{}
		var list []Pair
		for i, k := range keys {
			wantPut(t, d, m, k, val(i), api.OK)
			list = append(list, Pair{k, val(i)})
		}
		for _, got := range [][]Pair{d.Pairs(), d.Over(nil), Sort(list), d.Over(list[:3])} {
			for i, p := range got {
				if len(got) != len(want) || p != (Pair{want[i], val(slices.Index(keys, want[i]))}) {
					t.Fatalf("of %v it is %v", list, got)
				}
			}
		}
		for i, r := range d.Recs(1, nil) {
			if r.Key != want[i] {
				t.Fatalf("of %v Recs has %v at %d", list, r, i)
			}
		}
	})
}

func TestAllSixteenKeysInOrder(t *testing.T) {
	for step := 1; step < 16; step += 2 {
		for first := range 16 {
			d, m := New(), &model{}
			for i := range 16 {
				wantPut(t, d, m, sixteen()[(first+i*step)%16], val(i), api.OK)
			}
			for i, p := range d.Pairs() {
				if p.Key != sixteen()[i] {
					t.Fatalf("steps of %d from %d: at %d stands %v", step, first, i, p)
				}
			}
			wantBase(t, d, m, 1, m.pairs[3:9], allKeys())
		}
	}
}

// P9.2

func TestSort(t *testing.T) {
	for _, c := range []struct{ list, want string }{
		{"", ""},
		{"a1", "a1"},
		{"a0", "a0"},
		{"a-", ""},
		{"a?1", ""},
		// A map.
		{"a1 b2", "a1 b2"},
		{"a1 b0 c3", "a1 b0 c3"},
		{"b2 a1", "a1 b2"},
		{"c3 a1 b2", "a1 b2 c3"},
		{"a1 b- c3", "a1 c3"},
		{"a- b?2 c3", "c3"},
		{"a1 b2 c-", "a1 b2"},
		// The last one counts.
		{"a1 a2", "a2"},
		{"a2 a1", "a1"},
		{"a1 a1 a1", "a1"},
		{"a1 a0", "a0"},
		{"a1 a-", ""},
		{"a- a1", "a1"},
		{"a1 a?2", ""},
		{"a?2 a1", "a1"},
		{"a1 a- a?3", ""},
		{"a1 a?3 a-", ""},
		{"a1 a- a3", "a3"},
		{"a1 a- a3 a-", ""},
		// Among others.
		{"b1 a2 b3", "a2 b3"},
		{"b1 a2 b-", "a2"},
		{"b1 a2 b- c4 b5", "a2 b5 c4"},
		{"c1 b2 a3 c4 b- a6 c7", "a6 c7"},
		{"a1 b2 c3 c- b- a-", ""},
		{"z1 a?1 y2 a- x3 a4 y-", "a4 x3 z1"},
	} {
		t.Run(c.list, func(t *testing.T) {
			wantPairs(t, Sort(listOf(c.list)), c.want)
			wantPairs(t, Sort(listOf(c.want)), c.want)
			wantList(t, listOf(c.list), keysOf("abcxyz"))
		})
	}
	for _, none := range [][]Pair{nil, {}, make([]Pair, 0, 9)} {
		if got := Sort(none); len(got) != 0 {
			t.Errorf("Sort of none is %v", got)
		}
	}
}

func TestSortOfAllNumbers(t *testing.T) {
	for _, v := range append(rightVals(), wrongVals()...) {
		for _, k := range allKeys() {
			wantList(t, []Pair{{k, v}}, allKeys())
			wantList(t, []Pair{{k, val(5)}, {k, v}}, []api.Key{k})
			wantList(t, []Pair{{k, v}, {k, val(5)}}, []api.Key{k})
		}
	}
}

func TestFind(t *testing.T) {
	for _, c := range []struct {
		list, name string
		want       api.Val
	}{
		{"", "a", api.Val{}},
		{"a1", "a", val(1)},
		{"a1", "b", api.Val{}},
		{"a0", "a", val(0)},
		{"a-", "a", api.Val{}},
		// The last one, in no order.
		{"a1 a2", "a", val(2)},
		{"a2 a1", "a", val(1)},
		{"c3 a1 b2 a4 c5", "a", val(4)},
		{"c3 a1 b2 a4 c5", "c", val(5)},
		{"c3 a1 b2 a4 c5", "b", val(2)},
		{"c3 a1 b2 a4 c5", "d", api.Val{}},
		{"a1 a-", "a", api.Val{}},
		{"a- a1", "a", val(1)},
		// As it stands there, even if it isn't right.
		{"a?5", "a", api.Val{N: 5}},
		{"a1 a?5", "a", api.Val{N: 5}},
		{"a?5 a1", "a", val(1)},
		{"a?5 a-", "a", api.Val{}},
	} {
		if got := Find(listOf(c.list), keyOf(c.name)); got != c.want {
			t.Errorf("Find of %s in %q is %v, not %v", c.name, c.list, got, c.want)
		}
	}
	for _, none := range [][]Pair{nil, {}} {
		if got := Find(none, api.Key{}); got != (api.Val{}) {
			t.Errorf("Find in none is %v", got)
		}
	}
}

func TestFindTellsKeysApart(t *testing.T) {
	var list []Pair
	for i, k := range allKeys() {
		list = append(list, Pair{k, val(i + 1)})
	}
	for i, k := range allKeys() {
		if got := Find(list, k); got != val(i+1) {
			t.Errorf("Find(%v) is %v, not %d", k, got, i+1)
		}
		if got := Find(append(slices.Clone(list[:i]), list[i+1:]...), k); got != (api.Val{}) {
			t.Errorf("Find(%v) is %v", k, got)
		}
	}
}

func TestOver(t *testing.T) {
	for _, c := range []struct{ puts, base, want string }{
		{"", "", ""},
		{"", "a1 b2", "a1 b2"},
		{"a1", "", "a1"},
		{"b2 a1", "", "a1 b2"},
		{"a-", "", ""},
		{"a- b2", "a1", "b2"},
		{"a2", "a1", "a2"},
		{"a0", "a1", "a0"},
		{"b2", "a1 c3", "a1 b2 c3"},
		{"b-", "a1 c3", "a1 c3"},
		{"a- c-", "a1 b2 c3", "b2"},
		{"c5 b- a4", "a1 b2 c3 d4", "a4 c5 d4"},
		{"a1 a- a2", "a9", "a2"},
		{"a1 a-", "a9", ""},
		// It leaves nothing.
		{"a-", "a1", ""},
		{"a- b- c-", "a1 b2 c3", ""},
		{"c- a- b-", "b2", ""},
		// Bases that are no maps.
		{"", "c3 a1 b2", "a1 b2 c3"},
		{"", "a1 a2 a-", ""},
		{"b5", "c3 b1 a1", "a1 b5 c3"},
		{"b5", "b1 b- a1 b2", "a1 b5"},
		{"b-", "b1 b- a1 b2", "a1"},
		{"c1", "a1 a2 b1 b- b?7", "a2 c1"},
		{"a1", "a?7 b?7 c-", "a1"},
		{"a-", "a?7 b?7 c-", ""},
		{"d4", "b?7 b2 a1 a?7", "b2 d4"},
	} {
		t.Run(c.puts+" over "+c.base, func(t *testing.T) {
			d, m := made(t, listOf(c.puts))
			wantPairs(t, d.Over(listOf(c.base)), c.want)
			wantBase(t, d, m, 1, listOf(c.base), keysOf("abcd"))
		})
	}
}

func TestRecs(t *testing.T) {
	for _, c := range []struct{ puts, base, olds, news string }{
		{"", "", "", ""},
		{"", "a1 b2", "", ""},
		{"a1", "", "a-", "a1"},
		{"a-", "", "a-", "a-"},
		{"a2", "a1", "a1", "a2"},
		{"a1", "a1", "a1", "a1"},
		{"a-", "a1", "a1", "a-"},
		{"a0", "a0", "a0", "a0"},
		{"a1", "b2", "a-", "a1"},
		{"c3 a1 b-", "a9 b8", "a9 b8 c-", "a1 b- c3"},
		{"a1 a- a2", "a9", "a9", "a2"},
		// Bases that are no maps.
		{"a5 b6", "b1 a2 b3 a4", "a4 b3", "a5 b6"},
		{"a5", "a1 a-", "a-", "a5"},
		{"a5", "a- a1", "a1", "a5"},
		// Values that aren't right.
		{"a5", "a?7", "a-", "a5"},
		{"a5", "a1 a?7", "a-", "a5"},
		{"a5", "a?7 a1", "a1", "a5"},
		{"a- b5", "b?7 a?7", "a- b-", "a- b5"},
	} {
		t.Run(c.puts+" over "+c.base, func(t *testing.T) {
			d, m := made(t, listOf(c.puts))
			olds, news := listOf(c.olds), listOf(c.news)
			got := d.Recs(5, listOf(c.base))
			if len(got) != len(news) {
				t.Fatalf("Recs is %v", got)
			}
			for i, r := range got {
				want := api.Rec{Kind: api.RWrite, Tx: 5, Key: news[i].Key, Old: olds[i].Val, New: news[i].Val}
				if r != want || !rec.Right(r) {
					t.Errorf("at %d: %v, not %v", i, r, want)
				}
			}
			wantBase(t, d, m, 5, listOf(c.base), keysOf("abcd"))
		})
	}
}

func TestRecsOfAllNumbers(t *testing.T) {
	for _, old := range append(rightVals(), wrongVals()...) {
		for _, v := range rightVals() {
			d, m := made(t, []Pair{{api.Key{7}, v}})
			base := []Pair{{api.Key{7}, old}}
			wantBase(t, d, m, 1<<20, base, allKeys())
			if got := d.Recs(1<<20, base); len(got) != 1 || !rec.Right(got[0]) {
				t.Errorf("Recs is %v", got)
			}
		}
	}
}

// wildTxs are no transactions' numbers; a draft hasn't an error for them.
func wildTxs() []int {
	return []int{0, -1, -5, -1 << 20, 1<<20 + 1, 1 << 32, 1<<32 + 1, math.MinInt, math.MaxInt}
}

func TestRecsOfAllTransactions(t *testing.T) {
	for _, n := range []int{0, 1, 16} {
		d, m := full(t, n)
		for _, tx := range append(wildTxs(), 1, 2, 1<<20) {
			got := d.Recs(tx, nil)
			if len(got) != n {
				t.Errorf("Recs(%d) is %v", tx, got)
			}
			for _, r := range got {
				if r.Tx != tx || r.Kind != api.RWrite || r.Mask != 0 {
					t.Errorf("Recs(%d) has %v", tx, r)
				}
			}
			wantBase(t, d, m, tx, []Pair{{sixteen()[0], val(9)}}, allKeys())
		}
	}
}

// lists calls with each list of pairs of so many, or fewer, of these keys: There, nothing, and not right; no two have one number.
func lists(keys []api.Key, begun []Pair, more int, with func([]Pair)) {
	with(begun)
	if more == 0 {
		return
	}
	n := len(begun) + 1
	for _, k := range keys {
		for _, v := range []api.Val{val(n), {}, {N: n}} {
			lists(keys, append(slices.Clone(begun), Pair{k, v}), more-1, with)
		}
	}
}

func TestAllListsOfFewPairs(t *testing.T) {
	keys := []api.Key{{255}, {0, 0, 0, 255}, {0, 255}}
	lists(keys, nil, 4, func(list []Pair) {
		wantList(t, list, keys)
	})
	lists(keys[:2], nil, 5, func(list []Pair) {
		wantList(t, list, keys)
	})
}

func TestAllDraftsOverAllBases(t *testing.T) {
	keys := []api.Key{{255}, {0, 0, 0, 255}, {0, 255}}
	lists(keys[:2], nil, 2, func(puts []Pair) {
		d, m := New(), &model{}
		for _, p := range puts {
			p.Val.N *= -1 // apart from the base's numbers
			wantPut(t, d, m, p.Key, p.Val, m.expected(p))
		}
		lists(keys, nil, 3, func(base []Pair) {
			wantBase(t, d, m, 3, base, keys)
		})
	})
}

func TestManyPairs(t *testing.T) {
	const many = 1 << 18
	var list []Pair
	for i := range many {
		at := many - 1 - i*5%many
		list = append(list, Pair{api.Key{byte(at >> 16), byte(at >> 8), byte(at)}, api.Val{There: at%3 != 0, N: at}})
	}
	d, _ := made(t, []Pair{{api.Key{0, 0, 1}, api.Val{}}, {api.Key{0, 0, 3}, val(-3)}, {api.Key{9}, val(-9)}})
	sorted, over := Sort(list), d.Over(list)
	at := 0
	for i := range many {
		if i%3 == 0 {
			continue
		}
		if want := (Pair{api.Key{byte(i >> 16), byte(i >> 8), byte(i)}, val(i)}); sorted[at] != want {
			t.Fatalf("at %d stands %v, not %v", at, sorted[at], want)
		}
		at++
	}
	if at != len(sorted) || len(over) != at+1 || over[0].Val != val(2) || over[1].Val != val(-3) || over[at].Val != val(-9) {
		t.Errorf("%d of %d, and %d", at, len(sorted), len(over))
	}
	if r := d.Recs(1, list); len(r) != 3 || r[0].Old != val(1) || r[1].Old != (api.Val{}) || r[2].Old != (api.Val{}) {
		t.Errorf("Recs is %v", r)
	}
}

// P9.3

func TestDraftsAreApart(t *testing.T) {
	a, ma := made(t, listOf("a1 b2"))
	b, mb := made(t, listOf("b3 c4"))
	c, mc := made(t, nil)
	wantPut(t, a, ma, keyOf("c"), val(9), api.OK)
	wantPut(t, b, mb, keyOf("b"), api.Val{}, api.OK)
	for range 2 {
		wantDraft(t, a, ma, keysOf("abcd"))
		wantDraft(t, b, mb, keysOf("abcd"))
		wantDraft(t, c, mc, keysOf("abcd"))
	}
	full(t, 16)
	wantDraft(t, c, mc, allKeys())
}

func TestAnswersAreKept(t *testing.T) {
	d, m := made(t, listOf("b2 a- c3"))
	base := listOf("d4 a1 c9 c8")
	pairs, over, sorted, recs := d.Pairs(), d.Over(base), Sort(base), d.Recs(5, base)
	wantAll := func() {
		t.Helper()
		wantPairs(t, pairs, "a- b2 c3")
		wantPairs(t, over, "b2 c3 d4")
		wantPairs(t, sorted, "a1 c8 d4")
		if olds := listOf("a1 b- c8"); len(recs) != 3 || recs[0].Old != olds[0].Val || recs[1].Old != olds[1].Val || recs[2].Old != olds[2].Val {
			t.Errorf("Recs is %v", recs)
		}
	}
	wantAll()
	for _, k := range keysOf("abcde") {
		wantPut(t, d, m, k, val(77), api.OK)
	}
	wantAll()
	d.Pairs()
	d.Over(base)
	d.Recs(6, base)
	Sort(base)
	wantAll()
	spoil(base, mark())
	wantAll()
	// The answers' memories are apart, spare room too.
	spoil(recs[len(recs):], api.Rec{Kind: 99})
	for _, list := range [][]Pair{pairs, over, sorted} {
		spoil(list[len(list):], mark())
	}
	wantAll()
	wantDraft(t, d, m, keysOf("abcdef"))
}

// A map's Sort is that map, and yet new memory.
func TestSortOfAMapIsNew(t *testing.T) {
	in := given(listOf("a1 b2 c3"))
	got := Sort(in)
	spoil(got, mark())
	wantGiven(t, in, listOf("a1 b2 c3"))
	d, _ := made(t, nil)
	got = d.Over(in)
	wantPairs(t, got, "a1 b2 c3")
	spoil(got, mark())
	wantGiven(t, in, listOf("a1 b2 c3"))
}

func TestThatAnAnswerIsHandedIn(t *testing.T) {
	d, m := made(t, listOf("a- b2"))
	base := listOf("a1 c3")
	for range 3 {
		base = d.Over(base)
		wantPairs(t, base, "b2 c3")
	}
	wantBase(t, d, m, 1, d.Pairs(), keysOf("abc"))
	wantBase(t, d, m, 1, d.Over(d.Pairs()), keysOf("abc"))
	wantPairs(t, Sort(d.Pairs()), "b2")
}

// Rows of calls

// play does the calls that bytes tell, and holds the draft against the model at each.
func play(t *testing.T, script []byte) {
	t.Helper()
	d, m := made(t, nil)
	keys := allKeys()
	var base []Pair
	for len(script) >= 3 {
		k := keys[int(script[1])%len(keys)]
		p := Pair{k, val(int(int8(script[2])))}
		switch script[0] / 8 % 8 {
		case 0:
			p.Val = wrongVals()[int(script[2])%len(wrongVals())]
		case 1:
			p.Val = api.Val{}
		case 2:
			p.Val = rightVals()[int(script[2])%len(rightVals())]
		}
		switch script[0] % 8 {
		case 0:
			wantList(t, base, keys)
		case 1:
			wantBase(t, d, m, int(script[2])<<12, base, keys)
		case 2:
			base = nil
		case 3:
			base = d.Over(given(base))
		case 4:
			base = append(base, p)
		default:
			wantPut(t, d, m, p.Key, p.Val, m.expected(p))
		}
		wantDraft(t, d, m, keys)
		script = script[3:]
	}
	wantBase(t, d, m, 1, base, keys)
	wantList(t, base, keys)
}

func TestAgainstAModel(t *testing.T) {
	u := uint32(1)
	for range 150 {
		script := make([]byte, 300)
		for i := range script {
			u = u*1664525 + 1013904223
			script[i] = byte(u >> 24)
		}
		play(t, script)
	}
}

func FuzzDraft(f *testing.F) {
	f.Add([]byte{5, 1, 2, 4, 1, 7, 1, 0, 0, 3, 0, 0})
	f.Add([]byte{13, 3, 0, 4, 3, 9, 12, 3, 1, 2, 0, 0, 0, 0, 0})
	f.Fuzz(func(t *testing.T, script []byte) {
		play(t, script[:min(len(script), 300)])
	})
}

// P1

func TestNoCallPanics(t *testing.T) {
	vals := append(rightVals(), wrongVals()...)
	for _, n := range []int{0, 15, 16} {
		d, m := full(t, n)
		for _, k := range allKeys() {
			for _, v := range vals {
				d.Put(k, v)
				d.Get(k)
				Find(nil, k)
				Find([]Pair{{k, v}}, k)
				Sort([]Pair{{k, v}})
				d.Over([]Pair{{k, v}})
				m.put(k, v)
			}
		}
		for _, tx := range wildTxs() {
			d.Recs(tx, nil)
			d.Recs(tx, []Pair{})
			d.Recs(tx, []Pair{{}, {}, {}})
		}
		d.Over(nil)
		wantDraft(t, d, m, allKeys())
	}
	Sort(nil)
}
