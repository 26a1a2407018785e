package see

import (
	"math"
	"slices"
	"strconv"
	"sync"
	"testing"

	"vinculum/api"
	"vinculum/table"
	"vinculum/word"
)

const (
	last uint64 = 1099511627776       // 2^40
	ever uint64 = 2305843009213693952 // 2^61
	base uint64 = 4611686018427387904 // 2^62, the word of transaction 0 if there were one
)

type looker = func(int) (api.Txn, bool)

// knows is a look that knows these transactions alone.
func knows(txns map[int]api.Txn) looker {
	return func(id int) (api.Txn, bool) {
		x, ok := txns[id]
		return x, ok
	}
}

// begins holds what Begin answers.
func begins(t *testing.T, w uint64, me int, at uint64, look looker, want, on int) {
	t.Helper()
	if got, id := Begin(w, me, at, look); got != want || id != on {
		t.Errorf("Begin(%d, %d, %d) = %d, %d; want %d, %d", w, me, at, got, id, want, on)
	}
}

// ends holds what End answers.
func ends(t *testing.T, w uint64, me int, at uint64, look looker, want, on int) {
	t.Helper()
	if got, id := End(w, me, at, look); got != want || id != on {
		t.Errorf("End(%d, %d, %d) = %d, %d; want %d, %d", w, me, at, got, id, want, on)
	}
}

// both holds that Begin and End answer the same.
func both(t *testing.T, w uint64, me int, at uint64, look looker, want, on int) {
	t.Helper()
	begins(t, w, me, at, look, want, on)
	ends(t, w, me, at, look, want, on)
}

// sees holds what See answers.
func sees(t *testing.T, begin, end uint64, me int, at uint64, look looker, want int, on ...int) {
	t.Helper()
	if got, l := See(begin, end, me, at, look); got != want || !slices.Equal(l, on) {
		t.Errorf("See(%d, %d, %d, %d) = %d, %v; want %d, %v", begin, end, me, at, got, l, want, on)
	}
}

// oddInts are numbers at and beside the borders of ids and of int itself.
func oddInts() []int {
	return []int{math.MinInt, math.MinInt + 1, math.MinInt32, -65536, -65535, -2, -1, 0, 1, 2, 3, 65534, 65535, 65536, 65537, 1<<32 + 1, 1<<62 + 1, math.MaxInt - 1, math.MaxInt}
}

// oddTimes are numbers at and beside the borders of times and of words.
func oddTimes() []uint64 {
	return []uint64{0, 1, 2, 5, 65535, 65536, last - 1, last, last + 1, ever - 1, ever, ever + 1, base, base + 1, base + 65535, base + 65536, 1 << 63, math.MaxUint64 - 1, math.MaxUint64}
}

// noStamps are words that are no stamp.
func noStamps() []uint64 {
	return []uint64{last + 1, last + 2, 1<<41 - 1, 1 << 41, 1 << 60, ever - 1, ever + 1, ever + 7, base - 1, base, base + 65536, base + 65537, base + ever, base + ever + 1, 1 << 63, 1<<63 + 5, 1<<63 + ever, 1<<63 + base + 7, math.MaxUint64 - 1, math.MaxUint64}
}

// oddWords are all kinds of words.
func oddWords() []uint64 {
	return append(append(oddTimes(), noStamps()...), base+2, base+3, base+7, base+65534)
}

// answer is one answer of Begin or of End.
type answer struct{ kind, on int }

// by is what the chapter says of the word of the transaction id, for one that is not id.
func by(x api.Txn, known bool, id int, at uint64) answer {
	reached := x.End <= at
	switch {
	case !known || x.State == 5:
		return answer{3, 0}
	case x.State == 3 && reached:
		return answer{1, 0}
	case x.State == 2 && x.End > 0 && reached:
		return answer{4, id}
	}
	return answer{2, 0}
}

// joined is what the chapter says of See, for the answers of Begin and of End.
func joined(b, e answer) (int, []int) {
	row := map[answer]string{{1, 1}: "2", {1, 2}: "1", {1, 3}: "3", {1, 4}: "2e", {4, 1}: "2", {4, 2}: "1b", {4, 3}: "3", {4, 4}: "2e"}
	s := strconv.Itoa(b.kind)
	if b.kind == 1 || b.kind == 4 {
		s = row[answer{b.kind, e.kind}]
	}
	var l []int
	switch s[1:] {
	case "b":
		l = []int{b.on}
	case "e":
		l = []int{e.on}
	}
	return int(s[0] - '0'), l
}

// Promise 7.1: the numbers of what Begin answers.
func TestKinds(t *testing.T) {
	if api.VYes != 1 || api.VNo != 2 || api.VAgain != 3 || api.VMaybe != 4 {
		t.Error(api.VYes, api.VNo, api.VAgain, api.VMaybe)
	}
}

// Promises 7.1, 7.2: a time is passed from itself on, for whomever.
func TestTimes(t *testing.T) {
	times := []uint64{0, 1, 2, 5, 6, 65535, 65536, last - 1, last}
	for _, w := range times {
		for _, at := range oddTimes() {
			want := api.VNo
			if w <= at {
				want = api.VYes
			}
			for _, me := range oddInts() {
				both(t, w, me, at, nil, want, 0)
			}
		}
	}
	both(t, 5, 9, 4, nil, api.VNo, 0)
	both(t, 5, 9, 5, nil, api.VYes, 0)
	both(t, 5, 9, 6, nil, api.VYes, 0)
	both(t, 0, 9, 0, nil, api.VYes, 0)
	both(t, last, 9, last-1, nil, api.VNo, 0)
	both(t, last, 9, last, nil, api.VYes, 0)
}

// Promises 7.1, 7.2: for ever is not reached, even at its own number.
func TestForever(t *testing.T) {
	for _, at := range oddTimes() {
		for _, me := range oddInts() {
			both(t, word.Forever(), me, at, nil, api.VNo, 0)
		}
	}
	sees(t, 3, word.Forever(), 9, 5, nil, api.VYes)
}

// Promises 7.1, 7.2: a word that is no stamp neither lets a version begin nor lets it last.
func TestNoStamps(t *testing.T) {
	full := knows(map[int]api.Txn{0: {State: api.SCommitted}, 65536: {State: api.SCommitted}})
	for _, w := range noStamps() {
		for _, at := range oddTimes() {
			for _, me := range oddInts() {
				begins(t, w, me, at, full, api.VNo, 0)
				ends(t, w, me, at, full, api.VYes, 0)
			}
			sees(t, w, ever, 9, at, full, api.VNo)
			sees(t, 0, w, 9, at, full, api.VNo)
		}
	}
}

// Promises 7.1, 7.2: what me wrote holds for me at any time, whatever is known of me.
func TestMe(t *testing.T) {
	for _, me := range []int{1, 2, 7, 255, 256, 65534, 65535} {
		for _, at := range oddTimes() {
			both(t, base+uint64(me), me, at, nil, api.VYes, 0)
			for state := -1; state <= 7; state++ {
				for _, end := range []uint64{0, 1, 5, last, math.MaxUint64} {
					look := knows(map[int]api.Txn{me: {State: state, End: end}})
					both(t, base+uint64(me), me, at, look, api.VYes, 0)
				}
			}
		}
	}
}

// Promises 7.1, 7.2: a me that no word names, though a part of its number would, is nobody's.
func TestNobody(t *testing.T) {
	look := knows(map[int]api.Txn{1: {State: api.SActive}, 65535: {State: api.SActive}})
	for _, me := range []int{math.MinInt, math.MinInt + 1, -65535, -1, 0, 2, 65536, 65537, 1<<32 + 1, 1<<62 + 1, 1<<62 + 65535, math.MaxInt} {
		both(t, base+1, me, math.MaxUint64, look, api.VNo, 0)
		both(t, base+65535, me, math.MaxUint64, look, api.VNo, 0)
		both(t, base+65535, me, math.MaxUint64, nil, api.VAgain, 0)
	}
}

// Promises 7.1, 7.2: the states of another transaction, a line each.
func TestStates(t *testing.T) {
	for _, x := range []struct {
		x        api.Txn
		at       uint64
		want, on int
	}{
		{api.Txn{State: api.SActive}, 5, api.VNo, 0},
		{api.Txn{State: api.SActive, End: 5}, 5, api.VNo, 0},
		{api.Txn{State: api.SPrep}, 0, api.VNo, 0},
		{api.Txn{State: api.SPrep}, 5, api.VNo, 0},
		{api.Txn{State: api.SPrep, End: 1}, 0, api.VNo, 0},
		{api.Txn{State: api.SPrep, End: 1}, 1, api.VMaybe, 7},
		{api.Txn{State: api.SPrep, End: 5}, 4, api.VNo, 0},
		{api.Txn{State: api.SPrep, End: 5}, 5, api.VMaybe, 7},
		{api.Txn{State: api.SPrep, End: 5}, 6, api.VMaybe, 7},
		{api.Txn{State: api.SPrep, End: last + 1}, last + 1, api.VMaybe, 7},
		{api.Txn{State: api.SPrep, End: math.MaxUint64}, math.MaxUint64, api.VMaybe, 7},
		{api.Txn{State: api.SCommitted}, 0, api.VYes, 0},
		{api.Txn{State: api.SCommitted, End: 5}, 4, api.VNo, 0},
		{api.Txn{State: api.SCommitted, End: 5}, 5, api.VYes, 0},
		{api.Txn{State: api.SCommitted, End: 5}, 6, api.VYes, 0},
		{api.Txn{State: api.SCommitted, End: last + 1}, last, api.VNo, 0},
		{api.Txn{State: api.SCommitted, End: last + 1}, last + 1, api.VYes, 0},
		{api.Txn{State: api.SCommitted, End: ever}, ever, api.VYes, 0},
		{api.Txn{State: api.SCommitted, End: base + 9}, base + 8, api.VNo, 0},
		{api.Txn{State: api.SCommitted, End: base + 9}, base + 9, api.VYes, 0},
		{api.Txn{State: api.SCommitted, End: math.MaxUint64}, math.MaxUint64, api.VYes, 0},
		{api.Txn{State: api.SAborted}, 5, api.VNo, 0},
		{api.Txn{State: api.SAborted, End: 5}, 5, api.VNo, 0},
		{api.Txn{State: api.SDone}, 5, api.VAgain, 0},
		{api.Txn{State: api.SDone, End: 5}, 4, api.VAgain, 0},
		{api.Txn{State: api.SDone, End: 5}, 5, api.VAgain, 0},
		{api.Txn{}, 5, api.VNo, 0},
		{api.Txn{State: 6}, 5, api.VNo, 0},
		{api.Txn{State: -1}, 5, api.VNo, 0},
		{api.Txn{State: math.MaxInt, End: 5}, 5, api.VNo, 0},
	} {
		both(t, base+7, 9, x.at, knows(map[int]api.Txn{7: x.x}), x.want, x.on)
	}
}

// Promises 7.1, 7.2: level and begin time of another transaction do not matter, and neither do its end time and its state where it is not known.
func TestStatesAndNothingElse(t *testing.T) {
	for _, level := range oddInts() {
		for _, begin := range oddTimes() {
			for state := -1; state <= 7; state++ {
				x := api.Txn{Level: level, State: state, Begin: begin, End: 5}
				for at := uint64(4); at <= 6; at++ {
					want := by(x, true, 65535, at)
					both(t, base+65535, 9, at, knows(map[int]api.Txn{65535: x}), want.kind, want.on)
					unknown := func(int) (api.Txn, bool) { return x, false }
					both(t, base+65535, 9, at, unknown, api.VAgain, 0)
				}
			}
		}
	}
}

// Promises 7.1, 7.2: every id may be that of the other one, and is the one that is asked for and told of.
func TestEveryId(t *testing.T) {
	asked := 0
	look := func(id int) (api.Txn, bool) {
		asked = id
		return api.Txn{State: api.SPrep, End: 5}, true
	}
	for id := 1; id <= 65535; id++ {
		w, _ := word.Txn(id)
		me := id%65535 + 1
		both(t, w, me, 5, look, api.VMaybe, id)
		if asked != id {
			t.Fatalf("asked for %d, want %d", asked, id)
		}
		sees(t, w, ever, me, 5, look, api.VYes, id)
		sees(t, 5, w, me, 5, look, api.VNo, id)
	}
}

// Promises 7.1, 7.3: a look that is nil knows no transaction.
func TestNilLook(t *testing.T) {
	both(t, base+7, 9, 5, nil, api.VAgain, 0)
	both(t, base+9, 9, 5, nil, api.VYes, 0)
	both(t, 5, 9, 5, nil, api.VYes, 0)
	sees(t, base+7, ever, 9, 5, nil, api.VAgain)
	sees(t, 5, base+7, 9, 5, nil, api.VAgain)
	sees(t, 6, base+7, 9, 5, nil, api.VNo)
	sees(t, base+9, ever, 9, 5, nil, api.VYes)
	sees(t, 5, base+9, 9, 5, nil, api.VNo)
}

// Promise 7.3: the sentences of See, a line each, with 1 to 3 active, 4 and 5 about to commit, 6 committed, 7 aborted, 8 gone and 20 unknown.
func TestSee(t *testing.T) {
	look := knows(map[int]api.Txn{
		1: {State: api.SActive}, 4: {State: api.SPrep, End: 5}, 5: {State: api.SPrep, End: 4},
		6: {State: api.SCommitted, End: 5}, 7: {State: api.SAborted, End: 5}, 8: {State: api.SDone, End: 5},
	})
	const me = 9
	sees(t, 3, ever, me, 5, look, api.VYes)
	sees(t, 5, ever, me, 5, look, api.VYes)
	sees(t, 6, ever, me, 5, look, api.VNo)
	sees(t, 6, base+8, me, 5, look, api.VNo)
	sees(t, 6, base+4, me, 5, look, api.VNo)
	sees(t, base+8, ever, me, 5, look, api.VAgain)
	sees(t, base+8, base+4, me, 5, look, api.VAgain)
	sees(t, base+20, 3, me, 5, look, api.VAgain)
	sees(t, base+1, base+4, me, 5, look, api.VNo)
	sees(t, base+7, base+20, me, 5, look, api.VNo)
	sees(t, 3, base+8, me, 5, look, api.VAgain)
	sees(t, 3, base+20, me, 5, look, api.VAgain)
	sees(t, base+4, base+8, me, 5, look, api.VAgain)
	sees(t, 3, 5, me, 5, look, api.VNo)
	sees(t, 3, 6, me, 5, look, api.VYes)
	sees(t, 3, base+6, me, 5, look, api.VNo)
	sees(t, 3, base+6, me, 4, look, api.VYes)
	sees(t, 3, base+me, me, 5, look, api.VNo)
	sees(t, base+4, base+6, me, 5, look, api.VNo)
	sees(t, base+4, base+me, me, 5, look, api.VNo)
	sees(t, base+4, 1<<63, me, 5, look, api.VNo)
	sees(t, 3, base+4, me, 5, look, api.VNo, 4)
	sees(t, base+me, base+4, me, 5, look, api.VNo, 4)
	sees(t, base+4, base+5, me, 5, look, api.VNo, 5)
	sees(t, base+5, base+4, me, 5, look, api.VNo, 4)
	sees(t, base+4, base+4, me, 5, look, api.VNo, 4)
	sees(t, base+4, ever, me, 5, look, api.VYes, 4)
	sees(t, base+4, base+1, me, 5, look, api.VYes, 4)
	sees(t, base+4, base+7, me, 5, look, api.VYes, 4)
	sees(t, base+4, 6, me, 5, look, api.VYes, 4)
	sees(t, base+me, ever, me, 5, look, api.VYes)
	sees(t, base+6, base+7, me, 5, look, api.VYes)
	sees(t, 5, 3, me, 5, look, api.VNo)
}

// everyTxn are transactions in all states, with end times around the times that the tests ask at.
func everyTxn() []api.Txn {
	var l []api.Txn
	for state := 0; state <= 6; state++ {
		for _, end := range []uint64{0, 4, 5, 6} {
			l = append(l, api.Txn{State: state, End: end})
		}
	}
	return l
}

// Promises 7.1 to 7.3, W1: every pair of words against the chapter's sentences, with transactions 1 and 2 in all states.
func TestEveryPair(t *testing.T) {
	const me = 9
	words := []uint64{0, 4, 5, 6, last, ever, last + 1, base, 1 << 63, base + 1, base + 2, base + 3, base + me}
	for _, x := range everyTxn() {
		for _, y := range everyTxn() {
			look := knows(map[int]api.Txn{1: x, 2: y})
			plain := func(w, at uint64, strange int) answer {
				switch {
				case w <= last && w <= at || w == base+me:
					return answer{1, 0}
				case w <= last || w == ever:
					return answer{2, 0}
				case w == base+1:
					return by(x, true, 1, at)
				case w == base+2:
					return by(y, true, 2, at)
				case w == base+3:
					return answer{3, 0}
				}
				return answer{strange, 0}
			}
			for at := uint64(3); at <= 7; at++ {
				for _, b := range words {
					wb, we := plain(b, at, api.VNo), plain(b, at, api.VYes)
					begins(t, b, me, at, look, wb.kind, wb.on)
					ends(t, b, me, at, look, we.kind, we.on)
					for _, e := range words {
						want, on := joined(wb, plain(e, at, api.VYes))
						sees(t, b, e, me, at, look, want, on...)
					}
				}
			}
		}
	}
}

// Promise 7.3: what is given back is the caller's own.
func TestListIsTheCallers(t *testing.T) {
	look := knows(map[int]api.Txn{4: {State: api.SPrep, End: 5}})
	for _, w := range [][2]uint64{{base + 4, ever}, {3, base + 4}} {
		_, a := See(w[0], w[1], 9, 5, look)
		_, b := See(w[0], w[1], 9, 5, look)
		a[0] = 77
		for i := range a[:cap(a)] {
			a[:cap(a)][i] = 77
		}
		if b[0] != 4 {
			t.Error(b)
		}
		_, c := See(w[0], w[1], 9, 5, look)
		if c[0] != 4 {
			t.Error(c)
		}
	}
}

// outcomes are what a transaction in the state SPrep may become later: it may get an end time after at, if it has none, and is committed or aborted.
func outcomes(x api.Txn, at uint64) []api.Txn {
	if x.State != api.SPrep {
		return []api.Txn{x}
	}
	end := x.End
	if end == 0 {
		end = at + 1
	}
	return []api.Txn{x, {State: api.SPrep, End: end}, {State: api.SCommitted, End: end}, {State: api.SAborted, End: end}, {State: api.SAborted}}
}

// Promise 7.4, W5: whatever becomes of the transactions that are not returned, what is visible stays, as long as the one that is returned does not abort. VAgain leaves open what is visible.
func TestHangsOnReturnedAlone(t *testing.T) {
	words := []uint64{4, 5, 6, ever, 1 << 63, base + 1, base + 2, base + 9}
	for _, x := range everyTxn() {
		for _, y := range everyTxn() {
			now := knows(map[int]api.Txn{1: x, 2: y})
			for at := uint64(3); at <= 7; at++ {
				for _, b := range words {
					for _, e := range words {
						want, on := See(b, e, 9, at, now)
						if want == api.VAgain {
							continue
						}
						for _, xx := range outcomes(x, at) {
							for _, yy := range outcomes(y, at) {
								aborts := slices.Contains(on, 1) && xx.State == api.SAborted || slices.Contains(on, 2) && yy.State == api.SAborted
								if got, _ := See(b, e, 9, at, knows(map[int]api.Txn{1: xx, 2: yy})); got != want && !aborts {
									t.Fatalf("See(%d, %d) at %d with %v, %v = %d, %v, and with %v, %v = %d", b, e, at, x, y, want, on, xx, yy, got)
								}
							}
						}
					}
				}
			}
		}
	}
}

// Promise 7.4, W5: a transaction is returned only where its abort would change what is visible, whatever else is as it is; so nobody waits for one without need.
func TestReturnedMatters(t *testing.T) {
	words := []uint64{4, 5, 6, ever, 1 << 63, base + 1, base + 2, base + 9}
	for _, x := range everyTxn() {
		for _, y := range everyTxn() {
			txns := map[int]api.Txn{1: x, 2: y}
			for at := uint64(3); at <= 7; at++ {
				for _, b := range words {
					for _, e := range words {
						was, on := See(b, e, 9, at, knows(txns))
						if len(on) == 0 {
							continue
						}
						if x := txns[on[0]]; len(on) > 1 || x.State != api.SPrep || x.End == 0 || x.End > at {
							t.Fatalf("See(%d, %d) at %d with %v hangs on %v", b, e, at, txns, on)
						}
						other := map[int]api.Txn{1: x, 2: y}
						other[on[0]] = api.Txn{State: api.SAborted}
						same := b == base+uint64(on[0]) && e == b
						if got, _ := See(b, e, 9, at, knows(other)); got == was && !same {
							t.Fatalf("See(%d, %d) at %d with %v = %d, %v, and as much if that is aborted", b, e, at, txns, was, on)
						}
					}
				}
			}
		}
	}
}

// W3: of the versions of a key, each of which ends when the next one begins, exactly one is seen at each time from the first on, and it is the same one whether the words are still those of the transactions that committed, or already their end times.
func TestOneVersionIsSeen(t *testing.T) {
	ends := []uint64{3, 4, 7, 20, 21, last}
	txns := map[int]api.Txn{}
	for i, e := range ends {
		txns[i+1] = api.Txn{State: api.SCommitted, End: e}
	}
	look := knows(txns)
	for mask := range 1 << len(ends) {
		stamp := func(i int) uint64 {
			if mask>>i&1 == 1 {
				return base + uint64(i+1)
			}
			return ends[i]
		}
		for _, at := range []uint64{0, 2, 3, 4, 5, 6, 7, 8, 19, 20, 21, 22, last - 1, last, last + 1} {
			for i := range ends {
				end, over := ever, uint64(math.MaxUint64)
				if i+1 < len(ends) {
					end, over = stamp(i+1), ends[i+1]
				}
				want := api.VNo
				if ends[i] <= at && at < over {
					want = api.VYes
				}
				sees(t, stamp(i), end, 9, at, look, want)
			}
		}
	}
}

// W3: a transaction sees neither what others write while it is active nor what it has ended itself, and it sees what it wrote.
func TestSnapshot(t *testing.T) {
	x, _ := table.New(3)
	const begin = 5
	me, _ := x.Make(api.LSnap, begin)
	other, _ := x.Make(api.LSerial, begin)
	mine, theirs := base+uint64(me), base+uint64(other)
	step := func(e api.Errno) {
		t.Helper()
		if e != api.OK {
			t.Fatal(e)
		}
		sees(t, 4, theirs, me, begin, x.Get, api.VYes)
		sees(t, theirs, ever, me, begin, x.Get, api.VNo)
		sees(t, 4, mine, me, begin, x.Get, api.VNo)
		sees(t, mine, ever, me, begin, x.Get, api.VYes)
		sees(t, mine, mine, me, begin, x.Get, api.VNo)
		sees(t, 4, mine, other, begin, x.Get, api.VYes)
		sees(t, mine, ever, other, begin, x.Get, api.VNo)
	}
	step(api.OK)
	step(x.Turn(other, api.SPrep))
	step(x.End(other, 6))
	step(x.Turn(other, api.SCommitted))
	if e := x.Turn(other, api.SDone); e != api.OK {
		t.Fatal(e)
	}
	sees(t, theirs, ever, me, begin, x.Get, api.VAgain)
	sees(t, 4, theirs, me, begin, x.Get, api.VAgain)
	sees(t, 6, ever, me, begin, x.Get, api.VNo)
	sees(t, 4, 6, me, begin, x.Get, api.VYes)
}

// W5: what a reader sees of a transaction from its begin until it is gone, by both outcomes.
func TestLifeOfAnother(t *testing.T) {
	for _, outcome := range []int{api.SCommitted, api.SAborted} {
		x, _ := table.New(2)
		id, _ := x.Make(api.LSerial, 3)
		w := base + uint64(id)
		step := func(e api.Errno, made, ended int, on ...int) {
			t.Helper()
			if e != api.OK {
				t.Fatal(e)
			}
			sees(t, w, ever, 2, 5, x.Get, made, on...)
			sees(t, 4, w, 2, 5, x.Get, ended, on...)
			sees(t, w, w, 2, 5, x.Get, max(api.VNo, ended), on...)
		}
		step(api.OK, api.VNo, api.VYes)
		step(x.Turn(id, api.SPrep), api.VNo, api.VYes)
		step(x.End(id, 4), api.VYes, api.VNo, id)
		if outcome == api.SCommitted {
			step(x.Turn(id, outcome), api.VYes, api.VNo)
		} else {
			step(x.Turn(id, outcome), api.VNo, api.VYes)
		}
		step(x.Turn(id, api.SDone), api.VAgain, api.VAgain)
	}
}

// Section Ways: a state is looked at once a word, only where a word names another transaction, and that of the end word only where the begin word leaves it open.
func TestLooksOnceAWord(t *testing.T) {
	txns := map[int]api.Txn{1: {State: api.SActive}, 2: {State: api.SPrep, End: 5}, 3: {State: api.SCommitted, End: 5}, 4: {State: api.SAborted}, 5: {State: api.SDone, End: 5}}
	words := append(noStamps(), 3, 5, 6, ever, base+1, base+2, base+3, base+4, base+5, base+6, base+9)
	var asked []int
	look := func(id int) (api.Txn, bool) {
		asked = append(asked, id)
		x, ok := txns[id]
		return x, ok
	}
	names := func(w uint64) []int {
		if w > base && w <= base+6 {
			return []int{int(w - base)}
		}
		return nil
	}
	is := func(call string, b, e uint64, want []int) {
		t.Helper()
		if !slices.Equal(asked, want) {
			t.Errorf("%s of %d, %d looked at %v, want %v", call, b, e, asked, want)
		}
		asked = nil
	}
	for _, b := range words {
		kind, _ := Begin(b, 9, 5, look)
		is("Begin", b, 0, names(b))
		End(b, 9, 5, look)
		is("End", 0, b, names(b))
		for _, e := range words {
			want := names(b)
			if kind == api.VYes || kind == api.VMaybe {
				want = append(want, names(e)...)
			}
			See(b, e, 9, 5, look)
			is("See", b, e, want)
		}
	}
}

// Section Ways: while a transaction that made and ended a version goes on to commit, nobody sees that version, however the looks at the two words fall.
func TestNobodySeesWhatItsMakerEnded(t *testing.T) {
	for range 200 {
		x, _ := table.New(1)
		id, _ := x.Make(api.LSerial, 3)
		w := base + uint64(id)
		var all sync.WaitGroup
		for range 7 {
			all.Add(1)
			go func() {
				defer all.Done()
				for range 100 {
					kind, l := See(w, w, 9, 5, x.Get)
					if kind != api.VNo && kind != api.VAgain || len(l) > 0 && (kind != api.VNo || l[0] != id) {
						t.Errorf("See = %d, %v", kind, l)
						return
					}
				}
			}()
		}
		all.Add(1)
		go func() {
			defer all.Done()
			x.Turn(id, api.SPrep)
			x.End(id, 4)
			x.Turn(id, api.SCommitted)
			x.Turn(id, api.SDone)
		}()
		all.Wait()
	}
}

// Section Ways: of every course that a transaction may take between the looks at the two words, See answers what the two looks told.
func TestChangesBetweenLooks(t *testing.T) {
	course := []api.Txn{{State: api.SActive}, {State: api.SPrep}, {State: api.SPrep, End: 5}, {State: api.SCommitted, End: 5}, {State: api.SAborted, End: 5}, {State: api.SDone, End: 5}}
	for _, first := range course {
		for _, second := range course {
			n := 0
			look := func(int) (api.Txn, bool) {
				n++
				if n == 1 {
					return first, true
				}
				return second, true
			}
			want, on := joined(by(first, true, 7, 5), by(second, true, 7, 5))
			sees(t, base+7, base+7, 9, 5, look, want, on...)
		}
	}
}

// Promises 7.1 to 7.3, W1: a long run of words, states and times against the chapter's sentences.
func TestLongRun(t *testing.T) {
	seed := uint64(7)
	draw := func(n uint64) uint64 {
		seed = seed*6364136223846793005 + 1442695040888963407
		return (seed >> 33) % n
	}
	txns := map[int]api.Txn{}
	pick := func() uint64 {
		switch draw(5) {
		case 0:
			return draw(40)
		case 1:
			return ever
		case 2:
			return base + 1<<63 + draw(9)
		}
		return base + 1 + draw(20)
	}
	plain := func(w uint64, me int, at uint64, strange int) answer {
		switch {
		case w == base+uint64(me), w <= at && w < 40:
			return answer{1, 0}
		case w < 40, w == ever:
			return answer{2, 0}
		case w > 1<<63:
			return answer{strange, 0}
		}
		x, ok := txns[int(w-base)]
		return by(x, ok, int(w-base), at)
	}
	for range 300000 {
		if draw(3) == 0 {
			txns[int(1+draw(16))] = api.Txn{Level: int(draw(5)), State: int(draw(7)), Begin: draw(40), End: draw(40)}
		}
		b, e, me, at := pick(), pick(), int(1+draw(20)), draw(42)
		want, on := joined(plain(b, me, at, api.VNo), plain(e, me, at, api.VYes))
		sees(t, b, e, me, at, knows(txns), want, on...)
		if t.Failed() {
			return
		}
	}
}

// Promise 7.5: no call panics, whatever it is given; a look that panics knows no transaction.
func TestNoCallPanics(t *testing.T) {
	defer func() {
		if r := recover(); r != nil {
			t.Fatalf("panic: %v", r)
		}
	}()
	var none map[int]*api.Txn
	looks := []looker{
		nil,
		func(id int) (api.Txn, bool) { return api.Txn{}, false },
		func(id int) (api.Txn, bool) { return api.Txn{State: id, End: uint64(id)}, true },
		func(id int) (api.Txn, bool) { panic("look") },
		func(id int) (api.Txn, bool) { return *none[id], true },
	}
	for _, look := range looks {
		for _, me := range oddInts() {
			for _, at := range oddTimes() {
				for _, b := range oddWords() {
					Begin(b, me, at, look)
					End(b, me, at, look)
					for _, e := range oddWords() {
						See(b, e, me, at, look)
					}
				}
			}
		}
	}
	for _, look := range looks[3:] {
		both(t, base+7, 9, 5, look, api.VAgain, 0)
		both(t, base+9, 9, 5, look, api.VYes, 0)
		both(t, 5, 9, 5, look, api.VYes, 0)
		sees(t, base+7, ever, 9, 5, look, api.VAgain)
		sees(t, 5, base+7, 9, 5, look, api.VAgain)
		sees(t, 6, base+7, 9, 5, look, api.VNo)
	}
}
