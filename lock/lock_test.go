package lock

import (
	"math"
	"slices"
	"strconv"
	"strings"
	"testing"

	"concordat/api"
)

var (
	allTxs   = []int{1, 2, 3, 4, 5, 6, 7, 8, 9}
	allNames = []string{"a", "b", "c"}
)

func keyOf(name string) api.Key { return api.Key{name[0]} }

func allKeys() []api.Key {
	var keys []api.Key
	for _, name := range allNames {
		keys = append(keys, keyOf(name))
	}
	return keys
}

func made(t *testing.T, wait int) *Table {
	t.Helper()
	x, err := New(wait)
	if x == nil || err != api.OK {
		t.Fatalf("New(%d) is %v, %v", wait, x, err)
	}
	return x
}

func wantAsk(t *testing.T, x *Table, tx int, k api.Key, exclusive bool, now int, want api.Errno) {
	t.Helper()
	if got := x.Ask(tx, k, exclusive, now); got != want {
		t.Errorf("Ask(%d, %v, %v, %d) is %v, not %v", tx, k, exclusive, now, got, want)
	}
}

// step does a word of a script, to a table and to its model: 1sa asks for a key shared, and 1xa exclusively, which ! says to wait, and ? to be refused; 1f is Free; 1q is Quit of one that waits, and 1n of one that doesn't.
func step(t *testing.T, x *Table, m *model, word string, now int) {
	t.Helper()
	tx := int(word[0] - '0')
	switch word[1] {
	case 'f':
		x.Free(tx)
		m.free(tx)
	case 'q', 'n':
		if got := x.Quit(tx); got != (word[1] == 'q') || m.quit(tx) != got {
			t.Fatalf("%s: Quit is %v", word, got)
		}
	default:
		k, exclusive := keyOf(word[2:3]), word[1] == 'x'
		want := map[string]api.Errno{"": api.OK, "!": api.ErrWait, "?": api.ErrThere}[word[3:]]
		if got := x.Ask(tx, k, exclusive, now); got != want || m.ask(tx, k, exclusive, now) != got {
			t.Fatalf("%s: Ask is %v", word, got)
		}
	}
}

// played: a table in which a script was done, a tick each word, with a wait of 5.
func played(t *testing.T, script string) (*Table, *model) {
	t.Helper()
	x, m := made(t, 5), &model{wait: 5}
	for now, word := range strings.Fields(script) {
		step(t, x, m, word, now)
		wantSame(t, x, m, allTxs, allKeys())
		wantSound(t, x, m, allTxs, allKeys())
	}
	return x, m
}

// state tells a table: of each key who holds it, s or x, and who waits, w.
func state(x *Table) string {
	var told []string
	for _, name := range allNames {
		var has []string
		for _, tx := range allTxs {
			if how := x.Holds(tx, keyOf(name)); how > 0 {
				has = append(has, strconv.Itoa(tx)+"?sx"[how:how+1])
			}
		}
		for _, tx := range allTxs {
			if k, ok := x.Waits(tx); ok && k == keyOf(name) {
				has = append(has, strconv.Itoa(tx)+"w")
			}
		}
		if has != nil {
			told = append(told, name+": "+strings.Join(has, " "))
		}
	}
	return strings.Join(told, "; ")
}

type tale struct{ script, want string }

func wantTales(t *testing.T, tales []tale) {
	t.Helper()
	for _, c := range tales {
		t.Run(c.script, func(t *testing.T) {
			x, _ := played(t, c.script)
			if got := state(x); got != c.want {
				t.Errorf("it is %q, not %q", got, c.want)
			}
		})
	}
}

// P8.1

func TestNew(t *testing.T) {
	for _, wait := range []int{1, 2, 5, 999, 1000} {
		x := made(t, wait)
		wantSame(t, x, &model{wait: wait}, allTxs, allKeys())
	}
	for _, wait := range []int{0, -1, -5, -1000, 1001, 1002, 1 << 20, 1<<32 + 5, 1 << 40, math.MinInt, math.MinInt + 1, math.MaxInt} {
		if x, err := New(wait); x != nil || err != api.ErrRange {
			t.Errorf("New(%d) is %v, %v", wait, x, err)
		}
	}
}

func TestAskOfOneKey(t *testing.T) {
	wantTales(t, []tale{
		{"1sa", "a: 1s"},
		{"1xa", "a: 1x"},
		{"1sa 2sa 3sa", "a: 1s 2s 3s"},
		{"1sa 2xa!", "a: 1s 2w"},
		{"1xa 2sa!", "a: 1x 2w"},
		{"1xa 2xa!", "a: 1x 2w"},
		// Again, by its only holder.
		{"1sa 1sa", "a: 1s"},
		{"1xa 1xa", "a: 1x"},
		{"1xa 1sa", "a: 1x"},
		// And by one of several.
		{"1sa 2sa 1sa 2sa", "a: 1s 2s"},
		{"1sa 2sa 3xa! 1sa 2sa", "a: 1s 2s 3w"},
		{"1xa 2xa! 1sa 1xa", "a: 1x 2w"},
		// Nobody is passed over.
		{"1sa 2xa! 3sa!", "a: 1s 2w 3w"},
		{"1sa 2xa! 3xa! 4sa!", "a: 1s 2w 3w 4w"},
		{"1xa 2sa! 3sa! 4xa!", "a: 1x 2w 3w 4w"},
	})
}

func TestAskOfOneThatWaits(t *testing.T) {
	wantTales(t, []tale{
		{"1xa 2sa! 2sa! 2sa!", "a: 1x 2w"},
		{"1xa 2xa! 2xa!", "a: 1x 2w"},
		// What it waits for stays.
		{"1xa 2sa! 2xa! 3sa! 1f", "a: 2s 3s"},
		{"1xa 2xa! 2sa! 3sa! 1f", "a: 2x 3w"},
		{"1xa 2sa! 3xa! 2sa! 2xa! 1f", "a: 2s 3w"},
		// Another key: whether it could be had or not.
		{"1xa 2sa! 2sb? 2xb?", "a: 1x 2w"},
		{"1xa 3xb 2xa! 2sb? 2xb?", "a: 1x 2w; b: 3x"},
		{"1xa 2sa! 2sb? 1f 2sb", "a: 2s; b: 2s"},
		// A key that it holds so already.
		{"1sa 2xb 1sb! 1sa", "a: 1s; b: 2x 1w"},
		{"1xa 2xb 1sb! 1sa 1xa", "a: 1x; b: 2x 1w"},
		{"1sa 2sa 1xa! 1sa", "a: 1s 2s 1w"},
		// To rise is to ask for more than that.
		{"1sa 2xb 1sb! 1xa?", "a: 1s; b: 2x 1w"},
		{"1sa 3sa 2xb 1sb! 1xa?", "a: 1s 3s; b: 2x 1w"},
	})
}

func TestRising(t *testing.T) {
	wantTales(t, []tale{
		// The chapter's example.
		{"1sa 2sa 1xa!", "a: 1s 2s 1w"},
		{"1sa 2sa 1xa! 2f", "a: 1x"},
		// The only holder.
		{"1sa 1xa", "a: 1x"},
		{"1sa 1xa 2sa!", "a: 1x 2w"},
		{"1sa 2xa! 1xa", "a: 1x 2w"},
		{"1sa 2xa! 3sa! 1xa 1f", "a: 2x 3w"},
		// Among sharers.
		{"1sa 2sa 3sa 2xa!", "a: 1s 2s 3s 2w"},
		{"1sa 2sa 3sa 2xa! 1f", "a: 2s 3s 2w"},
		{"1sa 2sa 3sa 2xa! 1f 3f", "a: 2x"},
		{"1sa 2sa 2xa! 2xa! 2sa", "a: 1s 2s 2w"},
		{"1sa 2sa 1xa! 3sa!", "a: 1s 2s 1w 3w"},
		{"1sa 2sa 1xa! 3sa! 2f", "a: 1x 3w"},
		{"1sa 2sa 1xa! 3sa! 2f 1f", "a: 3s"},
		// Two of one key.
		{"1sa 2sa 1xa! 2xa!", "a: 1s 2s 1w 2w"},
		{"1sa 2sa 1xa! 2xa! 1f", "a: 2x"},
		{"1sa 2sa 1xa! 2xa! 2f", "a: 1x"},
		{"1sa 2sa 1xa! 2xa! 1q", "a: 1s 2s 2w"},
		{"1sa 2sa 1xa! 2xa! 1q 1f", "a: 2x"},
		{"1sa 2sa 3sa 3xa! 1xa! 2f", "a: 1s 3s 1w 3w"},
		{"1sa 2sa 3sa 3xa! 1xa! 2f 3f", "a: 1x"},
		{"1sa 2sa 3xa! 1xa! 4sa! 2xa! 1f", "a: 2x 3w 4w"},
		// Ahead of those that wait already.
		{"1sa 2sa 3xa! 1xa! 2f", "a: 1x 3w"},
		{"1sa 2sa 3xa! 4sa! 1xa! 2f 1f", "a: 3x 4w"},
		{"1sa 2sa 3xa! 4sa! 2xa! 3q", "a: 1s 2s 2w 4w"},
		{"1sa 2sa 3xa! 4sa! 2xa! 3q 1f", "a: 2x 4w"},
		{"1sa 2sa 3xa! 1xa! 2xa! 2f", "a: 1x 3w"},
		{"1sa 2sa 3xa! 1xa! 2xa! 1f", "a: 2x 3w"},
		// Who has gone on holds it shared, and rises like any other.
		{"1xa 2sa! 3sa! 1f 3xa!", "a: 2s 3s 3w"},
		{"1xa 2sa! 3sa! 4xa! 1f 2xa! 3f", "a: 2x 4w"},
	})
}

// No call tells the order among those that rise: of two, neither goes on until the other one is gone.
func TestTheOrderOfThoseThatWait(t *testing.T) {
	for _, c := range []struct {
		script string
		want   []int
	}{
		{"1xa 4sa! 2xa! 3sa!", []int{4, 2, 3}},
		{"1sa 2sa 3sa 3xa! 1xa! 2xa!", []int{3, 1, 2}},
		{"1sa 2sa 3sa 5xa! 4sa! 3xa! 6sa! 1xa! 2xa!", []int{3, 1, 2, 5, 4, 6}},
		{"1sa 2sa 3sa 5xa! 3xa! 1xa! 3q 3xa! 2xa! 1q 6xa!", []int{3, 2, 5, 6}},
	} {
		x, m := played(t, c.script)
		var order []int
		for _, at := range m.queue(keyOf("a")) {
			order = append(order, m.wants[at].tx)
		}
		if got := x.rows[keyOf("a")].waiting; !slices.Equal(got, c.want) || !slices.Equal(order, c.want) {
			t.Errorf("%s: %v wait, and in the model %v, not %v", c.script, got, order, c.want)
		}
	}
}

func wrongTxs() []int {
	return []int{0, -1, -2, -1 << 20, 1<<20 + 1, 1<<20 + 2, 1 << 32, 1<<32 + 1, -1<<32 + 1, math.MinInt, math.MinInt + 1, math.MaxInt}
}

func wrongTicks() []int {
	return []int{-1, -2, -1 << 40, 1<<40 + 1, 1<<40 + 2, 1 << 62, math.MinInt, math.MinInt + 1, math.MaxInt}
}

func TestAskAtTheEdges(t *testing.T) {
	k, other := api.Key{1}, api.Key{2}
	for _, now := range []int{0, 1, 1<<40 - 1, 1 << 40} {
		x := made(t, 1000)
		wantAsk(t, x, 1, k, true, now, api.OK)
		wantAsk(t, x, 1<<20, k, true, now, api.ErrWait)
		wantAsk(t, x, 1<<20, other, false, now, api.ErrThere)
		wantAsk(t, x, 1<<20-1, k, false, now, api.ErrWait)
		if x.Holds(1, k) != 2 || !slices.Equal(x.Txs(), []int{1, 1<<20 - 1, 1 << 20}) {
			t.Errorf("at %d: %v", now, x.Txs())
		}
		if x.Free(1); x.Holds(1<<20, k) != 2 || !x.Quit(1<<20-1) || !slices.Equal(x.Keys(1<<20), []api.Key{k}) {
			t.Errorf("at %d: %v", now, x.Txs())
		}
		wantAsk(t, x, 1, other, true, now, api.OK)
		wantAsk(t, x, 1<<20, other, true, now, api.ErrWait)
		if at, waits := x.Waits(1 << 20); at != other || !waits {
			t.Errorf("at %d: Waits is %v, %v", now, at, waits)
		}
	}
}

// busy: a script that ends with holders of each kind, one that rises, and others that wait.
const busy = "1sa 2sa 3xa! 4sa! 2xa! 5xb 5sc 6sb! 7xb! 8sc 9xc!"

// drained: all that a table tells from here on, while its transactions go, one by one.
func drained(x *Table) string {
	told := []string{state(x)}
	for _, tx := range allTxs {
		for now := range 25 {
			if slices.Contains(x.Late(now), tx) {
				told = append(told, strconv.Itoa(tx)+" since "+strconv.Itoa(now))
				break
			}
		}
	}
	for _, tx := range []int{1, 5, 8, 2, 7, 3, 9, 4, 6} {
		x.Free(tx)
		told = append(told, state(x))
	}
	return strings.Join(told, "\n")
}

func TestWhatIsRefusedChangesNothing(t *testing.T) {
	x, _ := played(t, busy)
	for _, wrong := range wrongTxs() {
		for _, exclusive := range []bool{false, true} {
			for _, now := range append(wrongTicks(), 0, 50) {
				wantAsk(t, x, wrong, keyOf("a"), exclusive, now, api.ErrRange)
				wantAsk(t, x, wrong, api.Key{}, exclusive, now, api.ErrRange)
			}
		}
		x.Free(wrong)
		if x.Quit(wrong) {
			t.Errorf("Quit(%d)", wrong)
		}
	}
	for _, wrong := range wrongTicks() {
		for _, tx := range append(slices.Clone(allTxs), 10, 1<<20) {
			for _, k := range append(allKeys(), api.Key{}) {
				wantAsk(t, x, tx, k, false, wrong, api.ErrRange)
				wantAsk(t, x, tx, k, true, wrong, api.ErrRange)
			}
		}
	}
	for _, c := range []struct {
		tx   int
		name string
	}{{3, "a"}, {4, "a"}, {6, "b"}, {7, "b"}, {9, "c"}} {
		for _, name := range allNames {
			want := api.ErrThere
			if name == c.name {
				want = api.ErrWait
			}
			wantAsk(t, x, c.tx, keyOf(name), false, 90, want)
			wantAsk(t, x, c.tx, keyOf(name), true, 0, want)
		}
		wantAsk(t, x, c.tx, api.Key{}, true, 90, api.ErrThere)
	}
	wantAsk(t, x, 2, keyOf("a"), true, 0, api.ErrWait)
	wantAsk(t, x, 2, keyOf("b"), false, 0, api.ErrThere)
	x.Free(1 << 20)
	if x.Quit(1) || x.Quit(5) || x.Quit(1<<20) {
		t.Error("Quit of one that doesn't wait")
	}
	plain, _ := played(t, busy)
	if got, want := drained(x), drained(plain); got != want {
		t.Errorf("it is\n%s\nnot\n%s", got, want)
	}
}

func TestWrongTransactionsHaveNothing(t *testing.T) {
	x, _ := played(t, busy)
	for _, wrong := range append(wrongTxs(), 10, 1<<20) {
		if x.Holds(wrong, keyOf("a")) != 0 || x.Holds(wrong, api.Key{}) != 0 || len(x.Keys(wrong)) != 0 {
			t.Errorf("%d holds %v", wrong, x.Keys(wrong))
		}
		if k, waits := x.Waits(wrong); waits || k != (api.Key{}) {
			t.Errorf("Waits(%d) is %v, %v", wrong, k, waits)
		}
	}
}

// P8.2

func TestFree(t *testing.T) {
	wantTales(t, []tale{
		{"1f", ""},
		{"1xa 1f", ""},
		{"1xa 1f 1f", ""},
		{"1xa 1f 2xa", "a: 2x"},
		{"1sa 1f 2xa", "a: 2x"},
		{"1sa 2sa 1f", "a: 2s"},
		{"1sa 1sb 1xc 1f", ""},
		// One that has nothing, and one that is there no more.
		{"1xa 2sa! 3f", "a: 1x 2w"},
		{"1xa 2sa! 1f 1f", "a: 2s"},
		// One that only waits: the first, one in the midst, the last.
		{"1sa 2xa! 3sa! 2f", "a: 1s 3s"},
		{"1xa 2sa! 3xa! 4sa! 3f 1f", "a: 2s 4s"},
		{"1xa 2sa! 3xa! 4sa! 4f 1f", "a: 2s 3w"},
		{"1xa 2xa! 2f 1f", ""},
		// One of several holders.
		{"1sa 2sa 3xa! 1f", "a: 2s 3w"},
		{"1sa 2sa 3xa! 1f 2f", "a: 3x"},
		// Several keys for which others wait.
		{"1xa 1xb 1xc 2xa! 3sb! 4sb! 5xc! 1f", "a: 2x; b: 3s 4s; c: 5x"},
		{"1xc 1xb 1xa 5xc! 3sb! 4xb! 2xa! 1f", "a: 2x; b: 3s 4w; c: 5x"},
		{"1sa 1sb 2sa 3xa! 4xb! 1f", "a: 2s 3w; b: 4x"},
		// One that holds a key, and waits for another one.
		{"1xa 2sb 1xb! 3sb! 4sa! 1f", "a: 4s; b: 2s 3s"},
		{"1xa 2xb 1sb! 2sa! 1f", "a: 2s; b: 2x"},
		{"1xa 2xb 1sb! 2sa! 2f", "a: 1x; b: 1s"},
		{"1xa 2xb 1sb! 2sa! 2f 1f", ""},
		// One that rises.
		{"1sa 2sa 3xa! 1xa! 1f", "a: 2s 3w"},
		{"1sa 2sa 1xa! 3sa! 4xa! 1f", "a: 2s 3s 4w"},
		{"1sa 2sa 1xa! 1f 2f", ""},
	})
}

func TestHowManyGoOn(t *testing.T) {
	wantTales(t, []tale{
		{"1xa 2sa! 3sa! 4sa! 1f", "a: 2s 3s 4s"},
		{"1xa 2sa! 3sa! 4xa! 5sa! 1f", "a: 2s 3s 4w 5w"},
		{"1xa 2sa! 3sa! 4xa! 5sa! 1f 3f", "a: 2s 4w 5w"},
		{"1xa 2sa! 3sa! 4xa! 5sa! 1f 3f 2f", "a: 4x 5w"},
		{"1xa 2sa! 3sa! 4xa! 5sa! 1f 3f 2f 4f", "a: 5s"},
		{"1xa 2xa! 3sa! 4sa! 1f", "a: 2x 3w 4w"},
		{"1xa 2xa! 3xa! 1f", "a: 2x 3w"},
		{"1xa 9sa! 2xa! 8sa! 1f", "a: 9s 2w 8w"},
		{"1xa 9xa! 2xa! 1f", "a: 9x 2w"},
		{"1xa 5sa! 4sa! 9sa! 2sa! 3sa! 6sa! 8xa! 7sa! 1f", "a: 2s 3s 4s 5s 6s 9s 7w 8w"},
	})
}

func TestQuit(t *testing.T) {
	wantTales(t, []tale{
		// One that doesn't wait.
		{"1n", ""},
		{"1sa 1n", "a: 1s"},
		{"1xa 2sa! 1n 3n", "a: 1x 2w"},
		{"1xa 2sa! 1f 2n", "a: 2s"},
		{"1xa 2sa! 2q 2n", "a: 1x"},
		{"1xa 2sa! 2f 2n", "a: 1x"},
		// The first.
		{"1sa 2xa! 2q", "a: 1s"},
		{"1sa 2xa! 3sa! 2q", "a: 1s 3s"},
		{"1sa 2xa! 3sa! 4sa! 5xa! 6sa! 2q", "a: 1s 3s 4s 5w 6w"},
		{"1sa 2xa! 3xa! 4sa! 2q", "a: 1s 3w 4w"},
		{"1xa 2sa! 3xa! 2q", "a: 1x 3w"},
		{"1xa 2sa! 3xa! 2q 1f", "a: 3x"},
		// One in the midst.
		{"1xa 2sa! 3xa! 4sa! 3q", "a: 1x 2w 4w"},
		{"1xa 2sa! 3xa! 4sa! 3q 1f", "a: 2s 4s"},
		{"1sa 2xa! 3xa! 4sa! 3q", "a: 1s 2w 4w"},
		{"1sa 2xa! 3sa! 4sa! 3q 2q", "a: 1s 4s"},
		// The last.
		{"1xa 2sa! 3xa! 3q", "a: 1x 2w"},
		{"1xa 2sa! 3xa! 3q 1f", "a: 2s"},
		// Behind all, when it asks again.
		{"1xa 2xa! 3xa! 2q 2xa! 1f", "a: 3x 2w"},
		// One that rises: it holds the key shared, as it did.
		{"1sa 2sa 1xa! 1q", "a: 1s 2s"},
		{"1sa 2sa 1xa! 1q 2f", "a: 1s"},
		{"1sa 2sa 1xa! 3sa! 4sa! 5xa! 1q", "a: 1s 2s 3s 4s 5w"},
		{"1sa 2sa 3xa! 1xa! 1q", "a: 1s 2s 3w"},
		{"1sa 2sa 1xa! 2xa! 3sa! 2q", "a: 1s 2s 1w 3w"},
		{"1sa 2sa 1xa! 1q 1xa! 2f", "a: 1x"},
		// Its own locks, and other keys, stay.
		{"1sa 2xb 1sb! 3sb! 1q", "a: 1s; b: 2x 3w"},
		{"1sa 2xb 1sb! 1q 1xa", "a: 1x; b: 2x"},
		{"1sa 2xa! 3sb 4xb! 5sb! 2q", "a: 1s; b: 3s 4w 5w"},
	})
}

func wantLate(t *testing.T, x *Table, now int, want ...int) {
	t.Helper()
	if got := x.Late(now); !slices.Equal(got, want) {
		t.Errorf("Late(%d) is %v, not %v", now, got, want)
	}
}

func TestLate(t *testing.T) {
	k := api.Key{1}
	for _, wait := range []int{1, 2, 5, 999, 1000} {
		for _, since := range []int{0, 1, 7, 1000, 1<<40 - 1, 1 << 40} {
			x := made(t, wait)
			wantAsk(t, x, 4, k, false, since, api.OK)
			wantLate(t, x, math.MaxInt)
			wantAsk(t, x, 3, k, true, since, api.ErrWait)
			for _, now := range []int{math.MinInt, math.MinInt + 1, -1 << 40, -wait, -1, since - 1, since, since + wait - 1} {
				wantLate(t, x, now)
			}
			for _, now := range []int{since + wait, since + wait + 1, since + 2*wait, 1<<40 + 1000, math.MaxInt - 1, math.MaxInt} {
				wantLate(t, x, now, 3)
			}
		}
	}
}

func TestLateOfSeveral(t *testing.T) {
	x := made(t, 10)
	a, b := api.Key{1}, api.Key{2}
	wantAsk(t, x, 50, a, true, 0, api.OK)
	wantAsk(t, x, 50, b, true, 0, api.OK)
	for _, c := range []struct {
		tx, now int
		k       api.Key
	}{{9, 7, a}, {300, 3, b}, {2, 5, b}, {1, 7, a}, {1 << 20, 3, a}, {40, 6, b}} {
		wantAsk(t, x, c.tx, c.k, false, c.now, api.ErrWait)
	}
	wantLate(t, x, 12)
	wantLate(t, x, 13, 300, 1<<20)
	wantLate(t, x, 14, 300, 1<<20)
	wantLate(t, x, 15, 2, 300, 1<<20)
	wantLate(t, x, 16, 2, 40, 300, 1<<20)
	wantLate(t, x, 17, 1, 2, 9, 40, 300, 1<<20)
	// They wait still, till they are told to quit.
	wantLate(t, x, 17, 1, 2, 9, 40, 300, 1<<20)
	if !x.Quit(300) || !x.Quit(9) {
		t.Error("Quit of one that is late")
	}
	wantLate(t, x, 17, 1, 2, 40, 1<<20)
	x.Free(50)
	wantLate(t, x, math.MaxInt)
}

func TestLateIsToldSinceTheFirstAsk(t *testing.T) {
	x := made(t, 5)
	k := api.Key{1}
	wantAsk(t, x, 1, k, false, 0, api.OK)
	wantAsk(t, x, 2, k, false, 0, api.OK)
	wantAsk(t, x, 1, k, true, 10, api.ErrWait)
	for _, now := range []int{0, 11, 14, 1 << 40} {
		wantAsk(t, x, 1, k, true, now, api.ErrWait)
		wantAsk(t, x, 1, k, false, now, api.OK)
		wantAsk(t, x, 1, api.Key{2}, true, now, api.ErrThere)
	}
	wantLate(t, x, 14)
	wantLate(t, x, 15, 1)
	// But once it has quit, it waits from the next ask on, were that earlier too.
	x.Quit(1)
	wantLate(t, x, 15)
	wantAsk(t, x, 1, k, true, 2, api.ErrWait)
	wantLate(t, x, 6)
	wantLate(t, x, 7, 1)
}

// P8.3

func edgeKeys() []api.Key {
	return []api.Key{
		{255, 255, 255, 255}, {0, 0, 0, 1}, {0, 0, 0, 0}, {255, 0, 0, 0}, {1, 0, 0, 0}, {0, 0, 0, 255}, {0, 255, 0, 0}, {0, 0, 1, 0}, {128, 0, 0, 0},
		{127, 255, 255, 255}, {0, 1, 0, 0}, {255, 255, 255, 254}, {254, 255, 255, 255}, {0, 0, 255, 0}, {1, 2, 3, 4}, {4, 3, 2, 1}, {1, 2, 3, 5}, {2, 2, 3, 4},
	}
}

// edgeKeysRising: the same, put in order by hand.
func edgeKeysRising() []api.Key {
	return []api.Key{
		{0, 0, 0, 0}, {0, 0, 0, 1}, {0, 0, 0, 255}, {0, 0, 1, 0}, {0, 0, 255, 0}, {0, 1, 0, 0}, {0, 255, 0, 0}, {1, 0, 0, 0}, {1, 2, 3, 4}, {1, 2, 3, 5},
		{2, 2, 3, 4}, {4, 3, 2, 1}, {127, 255, 255, 255}, {128, 0, 0, 0}, {254, 255, 255, 255}, {255, 0, 0, 0}, {255, 255, 255, 254}, {255, 255, 255, 255},
	}
}

func TestAnEmptyTable(t *testing.T) {
	for _, script := range []string{"", "1xa 2sa! 1sb 1f 2f", "1sa 2sa 1xa! 2xa! 2f 1f", "1xa 2xa! 2q 1f"} {
		x, _ := played(t, script)
		if len(x.Held()) != 0 || len(x.Txs()) != 0 || len(x.Keys(1)) != 0 || len(x.Late(math.MaxInt)) != 0 || x.Holds(1, keyOf("a")) != 0 {
			t.Errorf("%q: %v, %v", script, x.Held(), x.Txs())
		}
		if k, waits := x.Waits(1); waits || k != (api.Key{}) {
			t.Errorf("%q: Waits is %v, %v", script, k, waits)
		}
	}
}

func TestKeysRising(t *testing.T) {
	x := made(t, 5)
	for i, k := range edgeKeys() {
		wantAsk(t, x, 7, k, i%2 == 0, 0, api.OK)
		if i%2 == 1 {
			wantAsk(t, x, 8, k, false, 0, api.OK)
		}
	}
	// Neither one that waits nor one that shares makes a key be told twice, or told of one that doesn't hold it.
	wantAsk(t, x, 9, api.Key{}, false, 0, api.ErrWait)
	wantAsk(t, x, 8, api.Key{0, 0, 0, 1}, true, 0, api.ErrWait)
	if !slices.Equal(x.Keys(7), edgeKeysRising()) || !slices.Equal(x.Held(), edgeKeysRising()) {
		t.Errorf("Keys is %v, Held is %v", x.Keys(7), x.Held())
	}
	var some []api.Key
	for _, k := range edgeKeysRising() {
		if at := slices.Index(edgeKeys(), k); at%2 == 1 {
			some = append(some, k)
		}
	}
	if !slices.Equal(x.Keys(8), some) || len(x.Keys(9)) != 0 {
		t.Errorf("Keys is %v, and of one that waits %v", x.Keys(8), x.Keys(9))
	}
	x.Free(7)
	if want := append([]api.Key{{}}, some...); !slices.Equal(x.Held(), want) || len(x.Keys(7)) != 0 || !slices.Equal(x.Keys(9), want[:1]) {
		t.Errorf("Held is %v, not %v", x.Held(), want)
	}
}

func TestKeysAreApart(t *testing.T) {
	for _, k := range edgeKeys() {
		x := made(t, 5)
		wantAsk(t, x, 1, k, true, 0, api.OK)
		wantAsk(t, x, 2, k, true, 0, api.ErrWait)
		for _, other := range edgeKeys() {
			if other == k {
				continue
			}
			if x.Holds(1, other) != 0 {
				t.Errorf("who holds %v holds %v", k, other)
			}
			wantAsk(t, x, 3, other, true, 0, api.OK)
			wantAsk(t, x, 2, other, false, 0, api.ErrThere)
		}
		if at, waits := x.Waits(2); at != k || !waits || x.Holds(1, k) != 2 || x.Holds(3, k) != 0 {
			t.Errorf("Waits is %v, %v, not %v", at, waits, k)
		}
		x.Free(3)
		if !slices.Equal(x.Held(), []api.Key{k}) {
			t.Errorf("Held is %v, not %v", x.Held(), k)
		}
	}
}

func TestEachKeyGoesOn(t *testing.T) {
	x := made(t, 5)
	for i, k := range edgeKeys() {
		wantAsk(t, x, 1, k, true, 0, api.OK)
		wantAsk(t, x, 100+i, k, i%2 == 0, 0, api.ErrWait)
		wantAsk(t, x, 200+i, k, false, 0, api.ErrWait)
	}
	x.Free(1)
	for i, k := range edgeKeys() {
		want := [2]int{1, 1}
		if i%2 == 0 {
			want = [2]int{2, 0}
		}
		if got := [2]int{x.Holds(100+i, k), x.Holds(200+i, k)}; got != want {
			t.Errorf("%v is held %v, not %v", k, got, want)
		}
	}
}

func TestTxsRising(t *testing.T) {
	x := made(t, 5)
	order := []int{500, 3, 1 << 20, 1, 70, 2, 1<<20 - 1, 256, 255}
	for i, tx := range order {
		wantAsk(t, x, tx, api.Key{1, byte(i)}, true, 0, api.OK)
		wantAsk(t, x, tx, api.Key{2}, false, 0, api.OK)
	}
	for _, tx := range []int{900, 4, 300} {
		wantAsk(t, x, tx, api.Key{2}, true, 0, api.ErrWait)
	}
	wantAsk(t, x, 70, api.Key{2}, true, 0, api.ErrWait)
	if want := []int{1, 2, 3, 4, 70, 255, 256, 300, 500, 900, 1<<20 - 1, 1 << 20}; !slices.Equal(x.Txs(), want) {
		t.Errorf("Txs is %v, not %v", x.Txs(), want)
	}
	x.Quit(900)
	x.Quit(70)
	x.Free(500)
	if want := []int{1, 2, 3, 4, 70, 255, 256, 300, 1<<20 - 1, 1 << 20}; !slices.Equal(x.Txs(), want) {
		t.Errorf("Txs is %v, not %v", x.Txs(), want)
	}
}

// P8.4

// spoil writes over all of a list's memory, its spare room too.
func spoil[T any](list []T, by T) {
	list = list[:cap(list)]
	for i := range list {
		list[i] = by
	}
}

// wantNew: two answers of a call share no memory, with each other or with what is answered later.
func wantNew[T comparable](t *testing.T, what string, by T, call func() []T) {
	t.Helper()
	first, second := call(), call()
	if len(first) < 2 {
		t.Fatalf("%s: %v tells too little", what, first)
	}
	want := slices.Clone(first)
	spoil(first, by)
	if !slices.Equal(second, want) || !slices.Equal(call(), want) {
		t.Errorf("%s: answers share memory", what)
	}
}

func TestWhatIsAnsweredIsNew(t *testing.T) {
	x, m := played(t, busy)
	wantNew(t, "Keys", api.Key{9}, func() []api.Key { return x.Keys(5) })
	wantNew(t, "Held", api.Key{9}, x.Held)
	wantNew(t, "Txs", 77, x.Txs)
	wantNew(t, "Late", 77, func() []int { return x.Late(100) })
	wantSame(t, x, m, allTxs, allKeys())
	plain, _ := played(t, busy)
	if got, want := drained(x), drained(plain); got != want {
		t.Errorf("answers that were written into have changed the table:\n%s\nnot\n%s", got, want)
	}
}

func TestAnswersThatAreKeptStay(t *testing.T) {
	x, _ := played(t, busy)
	keys, held, txs, late := x.Keys(5), x.Held(), x.Txs(), x.Late(100)
	for _, tx := range allTxs {
		x.Free(tx)
	}
	wantAsk(t, x, 100, api.Key{9}, true, 0, api.OK)
	wantAsk(t, x, 101, api.Key{9}, true, 0, api.ErrWait)
	if !slices.Equal(keys, []api.Key{keyOf("b"), keyOf("c")}) || !slices.Equal(held, allKeys()) {
		t.Errorf("%v, %v", keys, held)
	}
	if !slices.Equal(txs, allTxs) || !slices.Equal(late, []int{2, 3, 4, 6, 7, 9}) {
		t.Errorf("%v, %v", txs, late)
	}
}

func TestTablesAreApart(t *testing.T) {
	one, _ := played(t, busy)
	other, _ := played(t, "1xa 2xa!")
	other.Free(1)
	empty := made(t, 5)
	wantAsk(t, empty, 9, keyOf("a"), true, 0, api.OK)
	plain, _ := played(t, busy)
	if state(other) != "a: 2x" || state(empty) != "a: 9x" || drained(one) != drained(plain) {
		t.Error("a table hangs on another one")
	}
}

// call is one of a row of calls; what it does is an ask, shared or exclusively, or a Free, or a Quit.
type call struct {
	what, tx int
	k        api.Key
	now      int
}

func (c call) do(t *testing.T, x *Table, m *model) {
	t.Helper()
	switch c.what {
	case 0, 1:
		if got, want := x.Ask(c.tx, c.k, c.what == 1, c.now), m.ask(c.tx, c.k, c.what == 1, c.now); got != want {
			t.Fatalf("%v: Ask is %v, not %v", c, got, want)
		}
	case 2:
		x.Free(c.tx)
		m.free(c.tx)
	default:
		if got, want := x.Quit(c.tx), m.quit(c.tx); got != want {
			t.Fatalf("%v: Quit is %v, not %v", c, got, want)
		}
	}
}

// callsOf: all calls that so many transactions and keys may have.
func callsOf(txs []int, keys []api.Key) []call {
	var calls []call
	for _, tx := range txs {
		for _, k := range keys {
			calls = append(calls, call{what: 0, tx: tx, k: k}, call{what: 1, tx: tx, k: k})
		}
		calls = append(calls, call{what: 2, tx: tx}, call{what: 3, tx: tx})
	}
	return calls
}

// wantRows plays each row of so many calls, or fewer, that begins with some.
func wantRows(t *testing.T, begun, all []call, more int, txs []int, keys []api.Key) {
	t.Helper()
	x, m := made(t, 3), &model{wait: 3}
	for now, c := range begun {
		c.now = now
		c.do(t, x, m)
	}
	wantSame(t, x, m, txs, keys)
	wantSound(t, x, m, txs, keys)
	if t.Failed() || more == 0 {
		return
	}
	for _, c := range all {
		wantRows(t, append(slices.Clone(begun), c), all, more-1, txs, keys)
	}
}

func TestAllRowsOfFewCalls(t *testing.T) {
	one, two := []api.Key{{5}}, []api.Key{{5}, {5, 0, 0, 1}}
	wantRows(t, nil, callsOf([]int{1, 2, 3}, two), 4, []int{1, 2, 3}, two)
	wantRows(t, nil, callsOf([]int{1, 2}, two), 5, []int{1, 2}, two)
	wantRows(t, nil, callsOf([]int{1, 2, 3}, one), 5, []int{1, 2, 3}, one)
}

// TestAllRowsBehindABeginning: where three share a key, or one has it alone and two wait.
func TestAllRowsBehindABeginning(t *testing.T) {
	k, txs := api.Key{5}, []int{1, 2, 3, 4}
	for _, whats := range [][]int{{0, 0, 0}, {0, 0, 1}, {1, 0, 1}, {1, 0, 0}, {1, 1, 0}} {
		var begun []call
		for i, what := range whats {
			begun = append(begun, call{what: what, tx: i + 1, k: k})
		}
		wantRows(t, begun, callsOf(txs, []api.Key{k}), 3, txs, []api.Key{k})
	}
}

// play does the calls that bytes tell, some of them wrong ones, and holds the table against the model at each.
func play(t *testing.T, script []byte) {
	t.Helper()
	keys := []api.Key{{}, {0, 0, 0, 255}, {255, 0, 0, 0}, {255, 255, 255, 255}}
	txs := []int{1, 2, 3, 4, 5, 1 << 20}
	x, m := made(t, 7), &model{wait: 7}
	now := 0
	for len(script) >= 2 {
		c := call{tx: txs[int(script[1])%len(txs)], k: keys[int(script[1])/16%len(keys)], now: now}
		switch what := script[0] % 16; {
		case what < 12:
			c.what = int(what % 2)
		case what == 12:
			c.what = 2
		case what == 13:
			c.what = 3
		case what == 14:
			c.tx, c.what = wrongTxs()[int(script[1])%len(wrongTxs())], int(script[0]/16)%4
		default:
			c.now = wrongTicks()[int(script[1])%len(wrongTicks())]
		}
		c.do(t, x, m)
		wantSame(t, x, m, txs, keys)
		wantSound(t, x, m, txs, keys)
		now += int(script[0]) / 64
		script = script[2:]
	}
}

func TestAgainstAModel(t *testing.T) {
	u := uint32(1)
	for range 150 {
		script := make([]byte, 400)
		for i := range script {
			u = u*1664525 + 1013904223
			script[i] = byte(u >> 24)
		}
		play(t, script)
	}
}

// P1

func TestNoCallPanics(t *testing.T) {
	numbers := append(append(wrongTxs(), wrongTicks()...), 1, 2, 1<<20, 1<<40)
	for _, wait := range append(slices.Clone(numbers), 1000) {
		x, err := New(wait)
		if err != api.OK {
			continue
		}
		for _, k := range edgeKeys() {
			for _, tx := range numbers {
				for _, now := range numbers {
					x.Ask(tx, k, tx%2 == 0, now)
				}
				x.Holds(tx, k)
				x.Waits(tx)
				x.Keys(tx)
				x.Late(tx)
			}
		}
		for _, tx := range numbers {
			x.Quit(tx)
			x.Free(tx)
			x.Quit(tx)
		}
		if len(x.Held()) != 0 || len(x.Txs()) != 0 {
			t.Errorf("%v, %v are left", x.Held(), x.Txs())
		}
	}
}

func TestManyAtOneKey(t *testing.T) {
	const many = 2000
	x := made(t, 1)
	k := api.Key{1}
	wantAsk(t, x, 1, k, true, 0, api.OK)
	for tx := 2; tx <= many; tx++ {
		wantAsk(t, x, tx, k, false, tx, api.ErrWait)
	}
	if len(x.Txs()) != many || len(x.Late(many)) != many-2 {
		t.Errorf("%d, and %d late", len(x.Txs()), len(x.Late(many)))
	}
	x.Free(1)
	for tx := 2; tx <= many; tx++ {
		if x.Holds(tx, k) != 1 {
			t.Errorf("%d holds it %d", tx, x.Holds(tx, k))
		}
		x.Free(tx)
	}
	if len(x.Txs()) != 0 || len(x.Held()) != 0 {
		t.Errorf("%v, %v are left", x.Txs(), x.Held())
	}
}

func FuzzLock(f *testing.F) {
	f.Add([]byte{0, 0, 0, 1, 1, 0, 12, 1})
	f.Add([]byte{0, 0, 65, 1, 0, 2, 13, 1, 14, 3, 15, 4, 30, 5})
	f.Fuzz(func(t *testing.T, script []byte) {
		play(t, script[:min(len(script), 400)])
	})
}
