package lock

import (
	"bytes"
	"math"
	"slices"
	"testing"

	"concordat/api"
)

// held and asked are lines of a plain table; grants and wants stand in the order in which they came.
type held struct {
	tx        int
	k         api.Key
	exclusive bool
}

type asked struct {
	held
	since int
}

// model is who holds and who waits: each answer is worked out anew from these two lists.
type model struct {
	wait   int
	grants []held
	wants  []asked
}

func (m *model) holds(tx int, k api.Key) int {
	switch {
	case slices.Contains(m.grants, held{tx, k, true}):
		return 2
	case slices.Contains(m.grants, held{tx, k, false}):
		return 1
	}
	return 0
}

func (m *model) waits(tx int) (api.Key, bool) {
	for _, w := range m.wants {
		if w.tx == tx {
			return w.k, true
		}
	}
	return api.Key{}, false
}

func (m *model) mayHave(l held) bool {
	for _, g := range m.grants {
		if g.k == l.k && g.tx != l.tx && (g.exclusive || l.exclusive) {
			return false
		}
	}
	return true
}

func (m *model) give(l held) {
	for i, g := range m.grants {
		if g.k == l.k && g.tx == l.tx {
			m.grants[i] = l
			return
		}
	}
	m.grants = append(m.grants, l)
}

// queue: the places in wants of those that wait for a key, in the order in which they are to have it.
func (m *model) queue(k api.Key) []int {
	var risers, others []int
	for i, w := range m.wants {
		switch {
		case w.k != k:
		case m.holds(w.tx, k) == 1:
			risers = append(risers, i)
		default:
			others = append(others, i)
		}
	}
	return append(risers, others...)
}

func (m *model) ask(tx int, k api.Key, exclusive bool, now int) api.Errno {
	if tx < 1 || tx > 1048576 || now < 0 || now > 1099511627776 {
		return api.ErrRange
	}
	has := m.holds(tx, k)
	if has == 2 || has == 1 && !exclusive {
		return api.OK
	}
	if at, waits := m.waits(tx); waits && at == k {
		return api.ErrWait
	} else if waits {
		return api.ErrThere
	}
	l := held{tx, k, exclusive}
	if m.mayHave(l) && (has == 1 || len(m.queue(k)) == 0) {
		m.give(l)
		return api.OK
	}
	m.wants = append(m.wants, asked{l, now})
	return api.ErrWait
}

func (m *model) goOn(k api.Key) {
	for {
		places := m.queue(k)
		if len(places) == 0 || !m.mayHave(m.wants[places[0]].held) {
			return
		}
		m.give(m.wants[places[0]].held)
		m.wants = slices.Delete(m.wants, places[0], places[0]+1)
	}
}

func (m *model) free(tx int) {
	keys := m.keys(tx)
	if k, waits := m.waits(tx); waits {
		keys = append(keys, k)
	}
	m.grants = slices.DeleteFunc(m.grants, func(g held) bool { return g.tx == tx })
	m.wants = slices.DeleteFunc(m.wants, func(w asked) bool { return w.tx == tx })
	for _, k := range rising(keys) {
		m.goOn(k)
	}
}

func (m *model) quit(tx int) bool {
	k, waits := m.waits(tx)
	m.wants = slices.DeleteFunc(m.wants, func(w asked) bool { return w.tx == tx })
	if waits {
		m.goOn(k)
	}
	return waits
}

func (m *model) late(now int) []int {
	var txs []int
	for _, w := range m.wants {
		if now >= w.since && now-w.since >= m.wait {
			txs = append(txs, w.tx)
		}
	}
	slices.Sort(txs)
	return txs
}

func (m *model) keys(tx int) []api.Key {
	var keys []api.Key
	for _, g := range m.grants {
		if g.tx == tx {
			keys = append(keys, g.k)
		}
	}
	return rising(keys)
}

func (m *model) held() []api.Key {
	var keys []api.Key
	for _, g := range m.grants {
		keys = append(keys, g.k)
	}
	return rising(keys)
}

func (m *model) txs() []int {
	var txs []int
	for _, g := range m.grants {
		txs = append(txs, g.tx)
	}
	for _, w := range m.wants {
		txs = append(txs, w.tx)
	}
	slices.Sort(txs)
	return slices.Compact(txs)
}

func rising(keys []api.Key) []api.Key {
	slices.SortFunc(keys, func(a, b api.Key) int { return bytes.Compare(a[:], b[:]) })
	return slices.Compact(keys)
}

// ticks: those at which it shows since when each one waits.
func (m *model) ticks() []int {
	all := []int{math.MinInt, -1, 0, math.MaxInt}
	for _, w := range m.wants {
		all = append(all, w.since-1, w.since, w.since+m.wait-1, w.since+m.wait, w.since+m.wait+1)
	}
	return all
}

// wantSame asks a table all that it may be asked of some transactions and keys.
func wantSame(t *testing.T, x *Table, m *model, txs []int, keys []api.Key) {
	t.Helper()
	for _, tx := range txs {
		for _, k := range keys {
			if got, want := x.Holds(tx, k), m.holds(tx, k); got != want {
				t.Fatalf("Holds(%d, %v) is %d, not %d", tx, k, got, want)
			}
		}
		got, waits := x.Waits(tx)
		if want, ok := m.waits(tx); got != want || waits != ok {
			t.Fatalf("Waits(%d) is %v, %v, not %v, %v", tx, got, waits, want, ok)
		}
		if got, want := x.Keys(tx), m.keys(tx); !slices.Equal(got, want) {
			t.Fatalf("Keys(%d) is %v, not %v", tx, got, want)
		}
	}
	if got, want := x.Held(), m.held(); !slices.Equal(got, want) {
		t.Fatalf("Held is %v, not %v", got, want)
	}
	if got, want := x.Txs(), m.txs(); !slices.Equal(got, want) {
		t.Fatalf("Txs is %v, not %v", got, want)
	}
	for _, now := range m.ticks() {
		if got, want := x.Late(now), m.late(now); !slices.Equal(got, want) {
			t.Fatalf("Late(%d) is %v, not %v", now, got, want)
		}
	}
}

// wantSound holds a table against P8.4, by what it tells of itself, and by the order in which the model has those that wait.
func wantSound(t *testing.T, x *Table, m *model, txs []int, keys []api.Key) {
	t.Helper()
	for _, k := range keys {
		holders, alone := 0, false
		for _, tx := range txs {
			how := x.Holds(tx, k)
			if how != 0 {
				holders++
			}
			alone = alone || how == 2
		}
		if alone && holders != 1 {
			t.Fatalf("%v is held exclusively, and by %d", k, holders)
		}
		if places := m.queue(k); len(places) > 0 {
			first := m.wants[places[0]]
			stopped := slices.ContainsFunc(txs, func(tx int) bool {
				how := x.Holds(tx, k)
				return tx != first.tx && (how == 2 || how == 1 && first.exclusive)
			})
			if at, waits := x.Waits(first.tx); waits && at == k && !stopped {
				t.Fatalf("%d waits first for %v, and could have it", first.tx, k)
			}
		}
	}
}
