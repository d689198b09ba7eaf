package lock

import "slices"

// How a key is held, or wanted.
const (
	none = iota
	shared
	exclusively
)

type holder struct{ tx, how int }

// row is what a table has of a key that someone holds.
type row struct {
	holders []holder // in the order in which they were granted
	waiting []int    // in order; what each of them wants, the table tells
}

func (r row) place(tx int) int {
	return slices.IndexFunc(r.holders, func(h holder) bool { return h.tx == tx })
}

func (r row) how(tx int) int {
	at := r.place(tx)
	if at < 0 {
		return none
	}
	return r.holders[at].how
}

func (r row) mayGrant(tx, want int) bool {
	return !slices.ContainsFunc(r.holders, func(h holder) bool {
		return h.tx != tx && (want == exclusively || h.how == exclusively)
	})
}

func (r *row) grant(tx, want int) {
	at := r.place(tx)
	if at < 0 {
		r.holders = append(r.holders, holder{tx, want})
		return
	}
	r.holders[at].how = want
}

// queue: it waits behind all, or, if it rises, behind those that rise.
func (r *row) queue(tx int) {
	at := -1
	if r.how(tx) != none {
		// Of those that wait, the ones that hold the key are those that rise.
		at = slices.IndexFunc(r.waiting, func(other int) bool { return r.how(other) == none })
	}
	if at < 0 {
		at = len(r.waiting)
	}
	r.waiting = slices.Insert(r.waiting, at, tx)
}

func (r *row) release(tx int) {
	r.holders = slices.DeleteFunc(r.holders, func(h holder) bool { return h.tx == tx })
}

func (r *row) leave(tx int) {
	r.waiting = slices.DeleteFunc(r.waiting, func(other int) bool { return other == tx })
}
