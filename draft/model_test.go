package draft

import (
	"cmp"
	"slices"
	"testing"

	"concordat/api"
)

// model is the pairs that were put, each key once, in the order in which its keys came.
type model struct{ pairs []Pair }

// place: where the last pair of a key stands, or -1.
func place(list []Pair, k api.Key) int {
	at := -1
	for i, p := range list {
		if p.Key == k {
			at = i
		}
	}
	return at
}

func (m *model) put(k api.Key, v api.Val) api.Errno {
	at := place(m.pairs, k)
	switch {
	case !v.There && v.N != 0:
		return api.ErrForm
	case at >= 0:
		m.pairs[at].Val = v
	case len(m.pairs) == 16:
		return api.ErrMany
	default:
		m.pairs = append(m.pairs, Pair{k, v})
	}
	return api.OK
}

// expected: what a put is to be answered, while the model stays as it is.
func (m *model) expected(p Pair) api.Errno {
	other := &model{slices.Clone(m.pairs)}
	return other.put(p.Key, p.Val)
}

func (m *model) get(k api.Key) (api.Val, bool) {
	at := place(m.pairs, k)
	if at < 0 {
		return api.Val{}, false
	}
	return m.pairs[at].Val, true
}

// number: of two keys the one whose bytes come first has the less one.
func number(k api.Key) int {
	n := 0
	for _, b := range k {
		n = n*256 + int(b)
	}
	return n
}

func rising(list []Pair) []Pair {
	list = slices.Clone(list)
	slices.SortFunc(list, func(a, b Pair) int { return cmp.Compare(number(a.Key), number(b.Key)) })
	return list
}

func mapOf(list []Pair) []Pair {
	var m []Pair
	for i, p := range list {
		if p.Val.There && place(list, p.Key) == i {
			m = append(m, p)
		}
	}
	return rising(m)
}

func found(list []Pair, k api.Key) api.Val {
	at := place(list, k)
	if at < 0 {
		return api.Val{}
	}
	return list[at].Val
}

func (m *model) over(base []Pair) []Pair {
	return mapOf(append(slices.Clone(base), m.pairs...))
}

func (m *model) recs(tx int, base []Pair) []api.Rec {
	var list []api.Rec
	for _, p := range rising(m.pairs) {
		r := api.Rec{Kind: 1, Tx: tx, Key: p.Key, New: p.Val}
		if old := found(base, p.Key); old.There {
			r.Old = old
		}
		list = append(list, r)
	}
	return list
}

// mark is a pair that stands in spare room.
func mark() Pair {
	return Pair{api.Key{'m', 'a', 'r', 'k'}, api.Val{N: 99}}
}

const room = 20

// given: a copy of pairs, in a memory that goes on behind them.
func given(list []Pair) []Pair {
	all := slices.Clone(list)
	for range room {
		all = append(all, mark())
	}
	return all[:len(list)]
}

// wantGiven holds a copy, and the memory behind it, against what it was.
func wantGiven(t *testing.T, got, want []Pair) {
	t.Helper()
	if !slices.Equal(got, want) {
		t.Fatalf("%v was handed in, and is %v now", want, got)
	}
	for _, p := range got[len(want) : len(want)+room] {
		if p != mark() {
			t.Fatalf("behind %v stands %v now", want, p)
		}
	}
}

// spoil writes into all the memory of an answer.
func spoil[T any](list []T, with T) {
	all := list[:cap(list)]
	for i := range all {
		all[i] = with
	}
}

// wantDraft asks a draft all that it may be asked without a base, twice: the first answers are written into.
func wantDraft(t *testing.T, d *Draft, m *model, keys []api.Key) {
	t.Helper()
	for range 2 {
		if d.Count() != len(m.pairs) {
			t.Fatalf("Count is %d, not %d", d.Count(), len(m.pairs))
		}
		for _, k := range keys {
			got, ok := d.Get(k)
			if want, there := m.get(k); got != want || ok != there {
				t.Fatalf("Get(%v) is %v, %v, not %v, %v", k, got, ok, want, there)
			}
		}
		got := d.Pairs()
		if want := rising(m.pairs); !slices.Equal(got, want) {
			t.Fatalf("Pairs is %v, not %v", got, want)
		}
		spoil(got, mark())
	}
}

// wantList asks all of a list of pairs that may be asked without a draft, twice.
func wantList(t *testing.T, list []Pair, keys []api.Key) {
	t.Helper()
	in := given(list)
	for range 2 {
		got := Sort(in)
		wantGiven(t, in, list)
		if want := mapOf(list); !slices.Equal(got, want) {
			t.Fatalf("Sort(%v) is %v, not %v", list, got, want)
		}
		spoil(got, mark())
		wantGiven(t, in, list)
		for _, k := range keys {
			if got, want := Find(in, k), found(list, k); got != want {
				t.Fatalf("Find(%v, %v) is %v, not %v", list, k, got, want)
			}
		}
		wantGiven(t, in, list)
	}
}

// wantBase asks a draft all that it may be asked of a base, twice.
func wantBase(t *testing.T, d *Draft, m *model, tx int, base []Pair, keys []api.Key) {
	t.Helper()
	in := given(base)
	for range 2 {
		over := d.Over(in)
		wantGiven(t, in, base)
		recs := d.Recs(tx, in)
		wantGiven(t, in, base)
		if want := m.over(base); !slices.Equal(over, want) {
			t.Fatalf("%v: Over(%v) is %v, not %v", m.pairs, base, over, want)
		}
		spoil(over, mark())
		if want := m.recs(tx, base); !slices.Equal(recs, want) {
			t.Fatalf("%v: Recs(%d, %v) is %v, not %v", m.pairs, tx, base, recs, want)
		}
		spoil(recs, api.Rec{Kind: 99})
		wantGiven(t, in, base)
		wantDraft(t, d, m, keys)
	}
	// What isn't kept may be written into.
	spoil(in, mark())
	wantDraft(t, d, m, keys)
}
