package may

import (
	"math"
	"slices"
	"testing"

	"vinculum/api"
	"vinculum/word"
)

const (
	last uint64 = 1099511627776       // 2^40
	ever uint64 = 2305843009213693952 // 2^61
	base uint64 = 4611686018427387904 // 2^62, the word of transaction 0 if there were one
)

type looker = func(int) (api.Txn, bool)

// knows is a look that knows these transactions alone.
func knows(txns map[int]api.Txn) looker {
	return func(id int) (api.Txn, bool) {
		x, ok := txns[id]
		return x, ok
	}
}

// every is a look that tells the same of all transactions.
func every(x api.Txn) looker {
	return func(int) (api.Txn, bool) { return x, true }
}

// writes holds what Write answers.
func writes(t *testing.T, end uint64, me int, look looker, want, on int) {
	t.Helper()
	if got, id := Write(end, me, look); got != want || id != on {
		t.Errorf("Write(%d, %d) = %d, %d; want %d, %d", end, me, got, id, want, on)
	}
}

// firsts holds what First answers.
func firsts(t *testing.T, want bool, me int, at uint64, look looker, words ...uint64) {
	t.Helper()
	if got := First(words, me, at, look); got != want {
		t.Errorf("First(%v, %d, %d) = %t", words, me, at, got)
	}
}

// ids are at and beside the borders of ids and of int itself; those that are none are ids in some of their bits.
func ids() []int {
	return []int{math.MinInt, math.MinInt + 1, math.MinInt32, -65535, -2, -1, 0, 1, 2, 9, 65534, 65535, 65536, 65537, 1<<32 + 9, 1<<62 + 9, math.MaxInt}
}

// times are words of times at and beside their borders.
func times() []uint64 {
	return []uint64{0, 1, 2, 4, 5, 6, 65535, 65536, last - 1, last}
}

// moments are times, and numbers beyond all of them.
func moments() []uint64 {
	return append(times(), last+1, ever-1, ever, ever+1, base+9, 1<<63, math.MaxUint64)
}

// noStamps are words that are no stamp.
func noStamps() []uint64 {
	return []uint64{last + 1, last + 2, 1 << 41, 1 << 60, ever - 1, ever + 1, ever + 9, base - 1, base, base + 65536, base + 65537, base + ever, 1 << 63, 1<<63 + 5, 1<<63 + ever, 1<<63 + base + 9, math.MaxUint64}
}

// states are those of the chapter and some that are none.
func states() []int {
	return []int{math.MinInt, -1, 0, 1, 2, 3, 4, 5, 6, 7, 255, math.MaxInt}
}

// everyTxn are transactions in all states, with end times around 5.
func everyTxn() []api.Txn {
	var l []api.Txn
	for _, state := range states() {
		for _, end := range []uint64{0, 4, 5, 6, math.MaxUint64} {
			l = append(l, api.Txn{State: state, End: end})
		}
	}
	return l
}

// byState is what the chapter says of the end word of the transaction id, for one that is not id.
func byState(x api.Txn, known bool, id int) (int, int) {
	switch {
	case !known || x.State == 5:
		return 3, 0
	case x.State == 4:
		return 1, id
	}
	return 2, id
}

// leavesRoom is what the chapter says of a begin word of another transaction.
func leavesRoom(x api.Txn, known bool) bool {
	return !known || x.State == 4 || x.State == 5
}

// Promise 8.1, section Examples: for ever is anyone's to replace.
func TestForever(t *testing.T) {
	for _, me := range ids() {
		writes(t, word.Forever(), me, nil, api.VYes, 0)
		for _, x := range everyTxn() {
			writes(t, ever, me, every(x), api.VYes, 0)
		}
	}
}

// Promise 8.1: a version that is over is nobody's to end, and neither is one whose end word is no stamp.
func TestOver(t *testing.T) {
	for _, w := range append(times(), noStamps()...) {
		for _, me := range ids() {
			writes(t, w, me, nil, api.VNo, 0)
			writes(t, w, me, every(api.Txn{State: api.SAborted}), api.VNo, 0)
			writes(t, w, me, every(api.Txn{State: api.SDone}), api.VNo, 0)
		}
	}
}

// Promise 8.1: me may write again what it has written, whatever is known of it.
func TestMyOwn(t *testing.T) {
	for _, me := range []int{1, 2, 9, 255, 256, 65534, 65535} {
		writes(t, base+uint64(me), me, nil, api.VYes, 0)
		for _, x := range everyTxn() {
			writes(t, base+uint64(me), me, every(x), api.VYes, 0)
		}
	}
}

// Promises 8.1, 8.2: a me that no word names, though a part of its number would, is nobody's.
func TestNobody(t *testing.T) {
	active := every(api.Txn{State: api.SActive})
	for _, me := range []int{math.MinInt, math.MinInt + 1, -65535, -1, 0, 2, 65536, 65537, 1<<32 + 1, 1<<62 + 1, 1<<62 + 65535, math.MaxInt} {
		for _, id := range []int{1, 65535} {
			writes(t, base+uint64(id), me, active, api.VNo, id)
			firsts(t, false, me, math.MaxUint64, active, base+uint64(id))
		}
	}
}

// Promise 8.1: the states of another transaction, a line each.
func TestStates(t *testing.T) {
	for _, x := range []struct{ state, want, on int }{
		{api.SActive, api.VNo, 7},
		{api.SPrep, api.VNo, 7},
		{api.SCommitted, api.VNo, 7},
		{api.SAborted, api.VYes, 7},
		{api.SDone, api.VAgain, 0},
		{0, api.VNo, 7},
		{6, api.VNo, 7},
		{-1, api.VNo, 7},
	} {
		writes(t, base+7, 9, knows(map[int]api.Txn{7: {State: x.state}}), x.want, x.on)
	}
	writes(t, base+7, 9, knows(map[int]api.Txn{8: {State: api.SAborted}}), api.VAgain, 0)
	writes(t, base+7, 9, nil, api.VAgain, 0)
}

// Promises 8.1, 8.2: of another transaction its state alone matters, and nothing at all where it is not known.
func TestStatesAndNothingElse(t *testing.T) {
	for _, level := range []int{-1, 0, api.LSnap, api.LRepeat, api.LSerial, 4} {
		for _, begin := range moments() {
			for _, end := range moments() {
				for _, state := range states() {
					x := api.Txn{Level: level, State: state, Begin: begin, End: end}
					want, on := byState(x, true, 65535)
					writes(t, base+65535, 9, every(x), want, on)
					firsts(t, leavesRoom(x, true), 9, 5, every(x), base+65535)
					unknown := func(int) (api.Txn, bool) { return x, false }
					writes(t, base+65535, 9, unknown, api.VAgain, 0)
					firsts(t, true, 9, 5, unknown, base+65535)
				}
			}
		}
	}
}

// Promises 8.1, 8.2: every id may be that of the other one, and is the one that is asked for and told of.
func TestEveryId(t *testing.T) {
	asked := 0
	told := func(state int) looker {
		return func(id int) (api.Txn, bool) {
			asked = id
			return api.Txn{State: state}, true
		}
	}
	for id := 1; id <= 65535; id++ {
		w, _ := word.Txn(id)
		me := id%65535 + 1
		asked = 0
		writes(t, w, me, told(api.SCommitted), api.VNo, id)
		writes(t, w, me, told(api.SAborted), api.VYes, id)
		if asked != id {
			t.Fatalf("Write asked for %d, want %d", asked, id)
		}
		asked = 0
		firsts(t, true, me, 5, told(api.SAborted), w)
		if asked != id {
			t.Fatalf("First asked for %d, want %d", asked, id)
		}
	}
}

// Promise 8.1: each of two sentences about a transaction that ended is about its state, not about its word: one life of a transaction, by both outcomes.
func TestLifeOfAWriter(t *testing.T) {
	txns := map[int]api.Txn{}
	look := knows(txns)
	step := func(state, want, on int, room bool) {
		t.Helper()
		txns[7] = api.Txn{State: state, Begin: 3, End: 4}
		writes(t, base+7, 9, look, want, on)
		writes(t, base+7, 7, look, api.VYes, 0)
		firsts(t, room, 9, 5, look, base+7)
		firsts(t, true, 7, 3, look, base+7)
	}
	step(api.SActive, api.VNo, 7, false)
	step(api.SPrep, api.VNo, 7, false)
	step(api.SCommitted, api.VNo, 7, false)
	step(api.SDone, api.VAgain, 0, true)
	step(api.SActive, api.VNo, 7, false)
	step(api.SAborted, api.VYes, 7, true)
	step(api.SDone, api.VAgain, 0, true)
	delete(txns, 7)
	writes(t, base+7, 9, look, api.VAgain, 0)
	firsts(t, true, 9, 5, look, base+7)
}

// Promise 8.2: a key without versions is anyone's, at any time.
func TestNoVersions(t *testing.T) {
	for _, me := range ids() {
		for _, at := range moments() {
			if !First(nil, me, at, nil) || !First([]uint64{}, me, at, every(api.Txn{State: api.SActive})) {
				t.Error(me, at)
			}
		}
	}
}

// Promise 8.2: a version that began by the time at leaves room, and one that began later does not.
func TestBeginTimes(t *testing.T) {
	for _, w := range times() {
		for _, at := range moments() {
			for _, me := range ids() {
				firsts(t, w <= at, me, at, nil, w)
			}
		}
	}
	firsts(t, true, 9, 0, nil, 0)
	firsts(t, false, 9, 0, nil, 1)
	firsts(t, true, 9, 5, nil, 5)
	firsts(t, false, 9, 4, nil, 5)
	firsts(t, false, 9, last-1, nil, last)
}

// Promise 8.2: a begin word that is for ever or no stamp leaves no room, however late it is.
func TestBeginWordsThatAreNone(t *testing.T) {
	for _, w := range append(noStamps(), word.Forever()) {
		for _, at := range moments() {
			firsts(t, false, 9, at, nil, w)
			firsts(t, false, 9, at, every(api.Txn{State: api.SAborted}), w)
			firsts(t, false, int(w), at, nil, w)
		}
	}
}

// Promise 8.2: what me wrote leaves room for what it writes next, and what others wrote does by their states, at any time.
func TestBeginTxns(t *testing.T) {
	for _, x := range everyTxn() {
		for _, at := range moments() {
			look := every(x)
			firsts(t, true, 7, at, look, base+7)
			firsts(t, true, 7, at, nil, base+7)
			firsts(t, leavesRoom(x, true), 9, at, look, base+7)
			firsts(t, true, 9, at, nil, base+7)
		}
	}
}

// Promise 8.2, W1: every list of at most three words, with transactions 1 and 2 in all states.
func TestEveryList(t *testing.T) {
	words := []uint64{0, 4, 5, 6, ever, 1 << 63, base, base + 1, base + 2, base + 3, base + 9}
	for state1 := 0; state1 <= 6; state1++ {
		for state2 := 0; state2 <= 6; state2++ {
			x, y := api.Txn{State: state1, End: 5}, api.Txn{State: state2, End: 4}
			look := knows(map[int]api.Txn{1: x, 2: y})
			plain := func(w uint64) bool {
				switch w {
				case base + 1:
					return leavesRoom(x, true)
				case base + 2:
					return leavesRoom(y, true)
				}
				return w <= 5 || w == base+3 || w == base+9
			}
			for _, a := range words {
				firsts(t, plain(a), 9, 5, look, a)
				for _, b := range words {
					firsts(t, plain(a) && plain(b), 9, 5, look, a, b)
					for _, c := range words {
						firsts(t, plain(a) && plain(b) && plain(c), 9, 5, look, a, b, c)
					}
				}
			}
		}
	}
}

// Promise 8.2: one word that leaves no room is enough, wherever it stands.
func TestEveryPlace(t *testing.T) {
	look := knows(map[int]api.Txn{1: {State: api.SActive}, 2: {State: api.SAborted}, 3: {State: api.SCommitted}})
	for _, n := range []int{1, 2, 7, 256, 4096} {
		words := make([]uint64, n)
		for i := range words {
			words[i] = []uint64{5, base + 2, base + 9, base + 4, 0}[i%5]
		}
		firsts(t, true, 9, 5, look, words...)
		for i := 0; i < n; i += 1 + n/60 {
			good := words[i]
			for _, bad := range []uint64{6, ever, 1 << 63, base + 1, base + 3} {
				words[i] = bad
				if First(words, 9, 5, look) {
					t.Errorf("%d at place %d of %d leaves room", bad, i, n)
				}
			}
			words[i] = good
		}
	}
}

// Rule 3: the words are as they were, and so is what lies behind them.
func TestWordsStay(t *testing.T) {
	look := knows(map[int]api.Txn{1: {State: api.SActive}})
	for _, l := range [][]uint64{{9, base + 1, 5, 0, ever, 1 << 63}, {5, 0, base + 9, base + 7, 3, 1}} {
		was := slices.Clone(l)
		for n := range l {
			First(l[:n], 9, 5, look)
			if !slices.Equal(l, was) {
				t.Error(l, was)
			}
		}
	}
}

// Section Ways: a state that changes between two looks never gives an answer that no single look gives.
func TestOneLookDecides(t *testing.T) {
	course := []api.Txn{{State: api.SActive}, {State: api.SPrep}, {State: api.SPrep, End: 5}, {State: api.SCommitted, End: 5}, {State: api.SAborted, End: 5}, {State: api.SDone, End: 5}}
	for _, first := range course {
		for _, later := range course {
			looks := func() looker {
				n := 0
				return func(int) (api.Txn, bool) {
					n++
					if n == 1 {
						return first, true
					}
					return later, true
				}
			}
			kind, on := Write(base+7, 9, looks())
			wantA, onA := byState(first, true, 7)
			wantB, onB := byState(later, true, 7)
			if (kind != wantA || on != onA) && (kind != wantB || on != onB) {
				t.Errorf("Write = %d, %d with %v and then %v", kind, on, first, later)
			}
			room := First([]uint64{base + 7}, 9, 5, looks())
			if room != leavesRoom(first, true) && room != leavesRoom(later, true) {
				t.Errorf("First = %t with %v and then %v", room, first, later)
			}
		}
	}
}

// Promises 8.1, 8.2, W1: a long run of words, states and times against the chapter's sentences.
func TestLongRun(t *testing.T) {
	seed := uint64(11)
	draw := func(n uint64) uint64 {
		seed = seed*6364136223846793005 + 1442695040888963407
		return (seed >> 33) % n
	}
	txns := map[int]api.Txn{}
	pick := func() uint64 {
		switch draw(8) {
		case 0, 1, 2:
			return draw(30)
		case 3:
			return []uint64{ever, 1<<63 + base + 3, last + 1 + draw(9)}[draw(3)]
		}
		return base + 1 + draw(20)
	}
	plainWrite := func(w uint64, me int) (int, int) {
		switch {
		case w == ever, w == base+uint64(me):
			return 1, 0
		case w < base, w > 1<<63:
			return 2, 0
		}
		x, ok := txns[int(w-base)]
		return byState(x, ok, int(w-base))
	}
	plainFirst := func(w uint64, me int, at uint64) bool {
		if w <= base || w > 1<<63 {
			return w < 30 && w <= at
		}
		x, ok := txns[int(w-base)]
		return w == base+uint64(me) || leavesRoom(x, ok)
	}
	for range 200000 {
		if draw(3) == 0 {
			txns[int(1+draw(16))] = api.Txn{Level: int(draw(5)), State: int(draw(7)), Begin: draw(30), End: draw(30)}
		}
		me, at, look := int(1+draw(20)), draw(32), knows(txns)
		end := pick()
		want, on := plainWrite(end, me)
		writes(t, end, me, look, want, on)
		var l []uint64
		room := true
		for range draw(4) {
			w := pick()
			l = append(l, w)
			room = room && plainFirst(w, me, at)
		}
		firsts(t, room, me, at, look, l...)
		if t.Failed() {
			return
		}
	}
}

// Promise 8.4: no call panics, whatever it is given; a look that panics knows no transaction.
func TestNoCallPanics(t *testing.T) {
	defer func() {
		if r := recover(); r != nil {
			t.Fatalf("panic: %v", r)
		}
	}()
	var none map[int]*api.Txn
	looks := []looker{
		func(id int) (api.Txn, bool) { panic("look") },
		func(id int) (api.Txn, bool) { return *none[id], true },
		nil,
		func(id int) (api.Txn, bool) { return api.Txn{State: id, End: uint64(id)}, true },
	}
	words := slices.Concat(moments(), noStamps(), []uint64{base + 1, base + 7, base + 65535})
	for _, look := range looks {
		for _, me := range ids() {
			for _, w := range words {
				Write(w, me, look)
				for _, at := range moments() {
					First([]uint64{w}, me, at, look)
				}
			}
			First(words, me, math.MaxUint64, look)
		}
	}
	for _, look := range looks[:3] {
		writes(t, base+7, 9, look, api.VAgain, 0)
		writes(t, base+9, 9, look, api.VYes, 0)
		writes(t, 5, 9, look, api.VNo, 0)
		firsts(t, true, 9, 5, look, base+7, 5, base+9)
		firsts(t, false, 9, 5, look, base+7, 6)
	}
}
