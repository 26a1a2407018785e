package table

import (
	"math"
	"slices"
	"sync"
	"testing"

	"vinculum/api"
)

const last uint64 = 1099511627776 // 2^40

// made is a Table for at most n transactions.
func made(t *testing.T, n int) *Table {
	t.Helper()
	x, e := New(n)
	if e != api.OK || x == nil {
		t.Fatalf("New(%d) = %v, %d", n, x != nil, e)
	}
	return x
}

// adds makes a transaction that must get the next id.
func adds(t *testing.T, x *Table, level int, begin uint64) int {
	t.Helper()
	want := x.Len() + 1
	if id, e := x.Make(level, begin); id != want || e != api.OK {
		t.Fatalf("Make(%d, %d) = %d, %d; want %d, OK", level, begin, id, e, want)
	}
	return want
}

// refuses holds that Make returns an error, and no id beside it.
func refuses(t *testing.T, x *Table, level int, begin uint64, want api.Errno) {
	t.Helper()
	if id, e := x.Make(level, begin); id != 0 || e != want {
		t.Errorf("Make(%d, %d) = %d, %d; want 0, %d", level, begin, id, e, want)
	}
}

// turns holds what Turn returns.
func turns(t *testing.T, x *Table, id, to int, want api.Errno) {
	t.Helper()
	if e := x.Turn(id, to); e != want {
		t.Errorf("Turn(%d, %d) = %d, want %d", id, to, e, want)
	}
}

// ends holds what End returns.
func ends(t *testing.T, x *Table, id int, end uint64, want api.Errno) {
	t.Helper()
	if e := x.End(id, end); e != want {
		t.Errorf("End(%d, %d) = %d, want %d", id, end, e, want)
	}
}

// is holds what Get returns of a transaction that is there.
func is(t *testing.T, x *Table, id, level, state int, begin, end uint64) {
	t.Helper()
	want := api.Txn{Level: level, State: state, Begin: begin, End: end}
	if got, ok := x.Get(id); !ok || got != want {
		t.Errorf("Get(%d) = %v, %v; want %v", id, got, ok, want)
	}
}

// live holds what Live returns.
func live(t *testing.T, x *Table, want ...int) {
	t.Helper()
	if got := x.Live(); !slices.Equal(got, want) {
		t.Errorf("Live() = %v, want %v", got, want)
	}
}

// oldest holds what Oldest returns.
func oldest(t *testing.T, x *Table, now, want uint64) {
	t.Helper()
	if got := x.Oldest(now); got != want {
		t.Errorf("Oldest(%d) = %d, want %d", now, got, want)
	}
}

// oddInts are numbers that are no id of a Table of n transactions, no level and no state.
func oddInts(n int) []int {
	n = max(n, 5)
	return []int{math.MinInt, math.MinInt + 1, math.MinInt32, -65536, -n - 1, -n, -2, -1, 0, n + 1, n + 2, 256 + 1, 65536, 65537, 1 << 32, 1<<32 + 1, math.MaxInt32, math.MaxInt - 1, math.MaxInt}
}

// pastTimes are numbers beyond the last time.
func pastTimes() []uint64 {
	return []uint64{last + 1, last + 2, 1<<41 - 1, 1 << 41, 1 << 61, 1<<61 + 5, 1<<62 + 7, 1 << 63, 1<<63 + 6, math.MaxUint64 - 1, math.MaxUint64}
}

// ways lead a new transaction to each state, by each way there is, with and without an end time; 0 stands for End.
func ways() [][]int {
	const end, prep, committed, aborted, done = 0, 2, 3, 4, 5
	return [][]int{
		{}, {prep}, {prep, end},
		{aborted}, {prep, aborted}, {prep, end, aborted},
		{prep, committed}, {prep, end, committed},
		{aborted, done}, {prep, aborted, done}, {prep, end, aborted, done},
		{prep, committed, done}, {prep, end, committed, done},
	}
}

// walk leads a transaction along a way, with the end time end, and returns its state and its end time, or 0.
func walk(t *testing.T, x *Table, id int, way []int, end uint64) (int, uint64) {
	t.Helper()
	state, got := api.SActive, uint64(0)
	for _, to := range way {
		if to == 0 {
			ends(t, x, id, end, api.OK)
			got = end
			continue
		}
		turns(t, x, id, to, api.OK)
		state = to
	}
	return state, got
}

// Promise 5.1: New at the numbers that are permitted: as many transactions can be made, and no more.
func TestNew(t *testing.T) {
	for _, n := range []int{1, 2, 3, 255, 256, 2000, 65534, 65535} {
		x := made(t, n)
		if x.Len() != 0 {
			t.Errorf("New(%d): Len() = %d", n, x.Len())
		}
		live(t, x)
		oldest(t, x, 5, 5)
		for i := range n {
			adds(t, x, 1+i%3, uint64(i))
		}
		for range 3 {
			refuses(t, x, api.LSnap, 0, api.ErrMany)
		}
		if x.Len() != n {
			t.Errorf("New(%d): Len() = %d behind %d transactions", n, x.Len(), n)
		}
		is(t, x, 1, api.LSnap, api.SActive, 0, 0)
		is(t, x, n, 1+(n-1)%3, api.SActive, uint64(n-1), 0)
	}
}

// Promise 5.1: New at the numbers that are not permitted.
func TestNewOutOfRange(t *testing.T) {
	for _, n := range []int{math.MinInt, math.MinInt + 1, math.MinInt32, -65535, -2, -1, 0, 65536, 65537, 1 << 17, math.MaxInt32, math.MaxInt - 1, math.MaxInt} {
		if x, e := New(n); x != nil || e != api.ErrArg {
			t.Errorf("New(%d) = %v, %d; want nil, ErrArg", n, x != nil, e)
		}
	}
}

// Promise 5.1: two Tables have nothing in common.
func TestTablesAreApart(t *testing.T) {
	x, y := made(t, 2), made(t, 2)
	adds(t, x, api.LSnap, 4)
	adds(t, y, api.LSerial, 6)
	turns(t, x, 1, api.SPrep, api.OK)
	ends(t, x, 1, 9, api.OK)
	turns(t, y, 1, api.SAborted, api.OK)
	is(t, x, 1, api.LSnap, api.SPrep, 4, 9)
	is(t, y, 1, api.LSerial, api.SAborted, 6, 0)
	adds(t, x, api.LSnap, 0)
	if x.Len() != 2 || y.Len() != 1 {
		t.Errorf("Len() = %d, %d", x.Len(), y.Len())
	}
}

// Promise 5.1: Make with each level and with the times at the edges: consecutive ids from 1, the state SActive and no end time.
func TestMake(t *testing.T) {
	begins := []uint64{0, 1, 2, 7, 1 << 37, 1<<37 + 1, 1 << 39, last - 1, last}
	x := made(t, 3*len(begins))
	for _, level := range []int{1, 2, 3} {
		for _, begin := range begins {
			id := adds(t, x, level, begin)
			if x.Len() != id {
				t.Errorf("Len() = %d behind transaction %d", x.Len(), id)
			}
		}
	}
	for i := range 3 * len(begins) {
		is(t, x, i+1, 1+i/len(begins), api.SActive, begins[i%len(begins)], 0)
	}
}

// Promise 5.1 and rule 8: Make with a level or a time that is none makes nothing and uses up no id; where the Table is full, ErrArg comes ahead of ErrMany.
func TestMakeRefuses(t *testing.T) {
	x := made(t, 2)
	bad := func() {
		t.Helper()
		before := x.Len()
		for _, level := range append(oddInts(3), 4) {
			for _, begin := range append(pastTimes(), 0, 1, last) {
				refuses(t, x, level, begin, api.ErrArg)
			}
		}
		for level := api.LSnap; level <= api.LSerial; level++ {
			for _, begin := range pastTimes() {
				refuses(t, x, level, begin, api.ErrArg)
			}
		}
		if x.Len() != before {
			t.Errorf("Len() = %d behind refused calls, want %d", x.Len(), before)
		}
		oldest(t, x, last, last)
	}
	bad()
	adds(t, x, api.LSnap, last)
	bad()
	adds(t, x, api.LSerial, last)
	bad()
	for level := api.LSnap; level <= api.LSerial; level++ {
		refuses(t, x, level, 0, api.ErrMany)
		refuses(t, x, level, last, api.ErrMany)
	}
	live(t, x, 1, 2)
	oldest(t, x, last, last)
}

// Promise 5.1: a transaction that is done still counts: its id and its place are never used again.
func TestNoIdIsUsedAgain(t *testing.T) {
	x := made(t, 2)
	adds(t, x, api.LSnap, 3)
	turns(t, x, 1, api.SAborted, api.OK)
	turns(t, x, 1, api.SDone, api.OK)
	if x.Len() != 1 {
		t.Errorf("Len() = %d, want 1", x.Len())
	}
	if id := adds(t, x, api.LSerial, 4); id != 2 {
		t.Errorf("the second id is %d", id)
	}
	turns(t, x, 2, api.SAborted, api.OK)
	turns(t, x, 2, api.SDone, api.OK)
	refuses(t, x, api.LSnap, 5, api.ErrMany)
	is(t, x, 1, api.LSnap, api.SDone, 3, 0)
	is(t, x, 2, api.LSerial, api.SDone, 4, 0)
}

// Promise 5.1: Can, for all pairs of states and for numbers that are none.
func TestCan(t *testing.T) {
	permitted := map[[2]int]bool{{1, 2}: true, {1, 4}: true, {2, 3}: true, {2, 4}: true, {3, 5}: true, {4, 5}: true}
	all := append(oddInts(5), 1, 2, 3, 4, 5, 7, 8, 9, 10, 11, 12, 13)
	for _, from := range all {
		for _, to := range all {
			if got := Can(from, to); got != permitted[[2]int{from, to}] {
				t.Errorf("Can(%d, %d) = %v", from, to, got)
			}
		}
	}
}

// Promise 5.1 and rule 8: Turn from each state, reached by each way, to each number: as Can says, with all else as it was.
func TestTurn(t *testing.T) {
	for _, way := range ways() {
		for _, to := range append(oddInts(5), 1, 2, 3, 4, 5, 8, 9, 10, 11, 12, 13) {
			x := made(t, 3)
			adds(t, x, api.LSnap, 1)
			id := adds(t, x, api.LRepeat, 6)
			adds(t, x, api.LSerial, 2)
			state, end := walk(t, x, id, way, 8)
			is(t, x, id, api.LRepeat, state, 6, end)
			if Can(state, to) {
				turns(t, x, id, to, api.OK)
				is(t, x, id, api.LRepeat, to, 6, end)
			} else {
				turns(t, x, id, to, api.ErrState)
				is(t, x, id, api.LRepeat, state, 6, end)
			}
			is(t, x, 1, api.LSnap, api.SActive, 1, 0)
			is(t, x, 3, api.LSerial, api.SActive, 2, 0)
		}
	}
}

// Promise 5.1: the example of the chapter.
func TestExample(t *testing.T) {
	x := made(t, 1)
	if id, e := x.Make(api.LSnap, 0); id != 1 || e != api.OK {
		t.Errorf("Make = %d, %d", id, e)
	}
	turns(t, x, 1, api.SAborted, api.OK)
	turns(t, x, 1, api.SPrep, api.ErrState)
}

// Rule 8: turns to an outcome that are refused leave it open: the one that is permitted later still comes about.
func TestARefusedOutcomeLeavesItOpen(t *testing.T) {
	for _, outcome := range []int{api.SCommitted, api.SAborted} {
		x := made(t, 1)
		adds(t, x, api.LSerial, 0)
		turns(t, x, 1, api.SCommitted, api.ErrState)
		turns(t, x, 1, api.SDone, api.ErrState)
		turns(t, x, 1, api.SPrep, api.OK)
		turns(t, x, 1, api.SDone, api.ErrState)
		turns(t, x, 1, api.SPrep, api.ErrState)
		ends(t, x, 1, 0, api.ErrArg)
		turns(t, x, 1, outcome, api.OK)
		is(t, x, 1, api.LSerial, outcome, 0, 0)
	}
}

// Promise 5.1: End at the edges of what is permitted.
func TestEnd(t *testing.T) {
	for _, begin := range []uint64{0, 1, 5, 1 << 37, last - 2, last - 1} {
		for _, end := range []uint64{begin + 1, begin + 2, last - 1, last} {
			if end <= begin || end > last {
				continue
			}
			x := made(t, 2)
			adds(t, x, api.LSerial, begin)
			adds(t, x, api.LSnap, begin)
			turns(t, x, 1, api.SPrep, api.OK)
			is(t, x, 1, api.LSerial, api.SPrep, begin, 0)
			ends(t, x, 1, end, api.OK)
			is(t, x, 1, api.LSerial, api.SPrep, begin, end)
			is(t, x, 2, api.LSnap, api.SActive, begin, 0)
			oldest(t, x, last, begin)
			live(t, x, 1, 2)
		}
	}
}

// Promise 5.1 and rule 8: End with a time that is none, or is not above the begin time, sets nothing; one that is permitted can be set still.
func TestEndRefusesTimes(t *testing.T) {
	for _, begin := range []uint64{0, 1, 5, 1 << 37, last - 1, last} {
		x := made(t, 1)
		adds(t, x, api.LRepeat, begin)
		turns(t, x, 1, api.SPrep, api.OK)
		for _, end := range append(pastTimes(), 0, begin/2, begin-min(begin, 1), begin) {
			ends(t, x, 1, end, api.ErrArg)
			is(t, x, 1, api.LRepeat, api.SPrep, begin, 0)
		}
		if begin < last {
			ends(t, x, 1, begin+1, api.OK)
			is(t, x, 1, api.LRepeat, api.SPrep, begin, begin+1)
		} else {
			ends(t, x, 1, last, api.ErrArg)
			turns(t, x, 1, api.SCommitted, api.OK)
			is(t, x, 1, api.LRepeat, api.SCommitted, begin, 0)
		}
	}
}

// Promise 5.1: End where the state is not SPrep, or where there is an end time, is ErrState whatever the time is.
func TestEndRefusesStates(t *testing.T) {
	for _, way := range ways() {
		x := made(t, 1)
		adds(t, x, api.LSnap, 6)
		state, end := walk(t, x, 1, way, 8)
		if state == api.SPrep && end == 0 {
			continue
		}
		for _, again := range append(pastTimes(), 0, 5, 6, 7, 8, 9, last) {
			ends(t, x, 1, again, api.ErrState)
			is(t, x, 1, api.LSnap, state, 6, end)
		}
	}
}

// Promise 5.1: a call with no such transaction is ErrNone, or false, ahead of all else, and changes nothing.
func TestNoSuchTransaction(t *testing.T) {
	for n := range 4 {
		x := made(t, 4)
		for range n {
			adds(t, x, api.LSnap, 3)
		}
		for _, id := range append(oddInts(n), n+1, n+2) {
			if 1 <= id && id <= n {
				continue
			}
			for _, to := range append(oddInts(5), 1, 2, 3, 4, 5) {
				turns(t, x, id, to, api.ErrNone)
			}
			for _, end := range append(pastTimes(), 0, 3, 4, last) {
				ends(t, x, id, end, api.ErrNone)
			}
			if got, ok := x.Get(id); ok || got != (api.Txn{}) {
				t.Errorf("%d transactions: Get(%d) = %v, %v", n, id, got, ok)
			}
		}
		if x.Len() != n {
			t.Errorf("Len() = %d, want %d", x.Len(), n)
		}
		for i := range n {
			is(t, x, i+1, api.LSnap, api.SActive, 3, 0)
		}
	}
}

// Promise 5.1: Get hands out a copy.
func TestGetIsACopy(t *testing.T) {
	x := made(t, 1)
	adds(t, x, api.LSnap, 6)
	got, _ := x.Get(1)
	got.Level, got.State, got.Begin, got.End = 9, 9, 9, 9
	is(t, x, 1, api.LSnap, api.SActive, 6, 0)
	before, _ := x.Get(1)
	turns(t, x, 1, api.SPrep, api.OK)
	if before.State != api.SActive {
		t.Errorf("an earlier answer became %v", before)
	}
}

// Promise 5.1: Live lists the states SActive and SPrep, with and without an end time, and no others.
func TestLive(t *testing.T) {
	x := made(t, 2*len(ways()))
	var want []int
	for range 2 {
		for _, way := range ways() {
			id := adds(t, x, api.LSnap, 6)
			if state, _ := walk(t, x, id, way, 8); state <= api.SPrep {
				want = append(want, id)
			}
		}
	}
	if len(want) != 6 {
		t.Fatalf("%v are live", want)
	}
	live(t, x, want...)
	for i, id := range want {
		live(t, x, want[i:]...)
		turns(t, x, id, api.SAborted, api.OK)
	}
	live(t, x)
}

// Promise 5.1 and rule 3: what Live returns shares nothing with the Table, nor with another answer, also behind its end.
func TestLiveIsLentToNobody(t *testing.T) {
	x := made(t, 5)
	for range 3 {
		adds(t, x, api.LSnap, 1)
	}
	l, m := x.Live(), x.Live()
	for i := range l {
		l[i] = 77
	}
	l = append(l, 78)
	clear(l[:cap(l)])
	if !slices.Equal(m, []int{1, 2, 3}) {
		t.Errorf("the other list became %v", m)
	}
	live(t, x, 1, 2, 3)
	turns(t, x, 1, api.SAborted, api.OK)
	if !slices.Equal(m, []int{1, 2, 3}) {
		t.Errorf("a list from before became %v", m)
	}
	live(t, x, 2, 3)
}

// Promise 5.1: Oldest is the smallest Begin of those that are live, or now.
func TestOldest(t *testing.T) {
	x := made(t, 6)
	nows := []uint64{0, 1, 4, 5, 6, 9, last, last + 1, math.MaxUint64}
	hold := func(low uint64) {
		t.Helper()
		for _, now := range nows {
			oldest(t, x, now, min(low, now))
		}
	}
	hold(math.MaxUint64)
	for i, begin := range []uint64{last, 9, 5, 0, 5, 7} {
		adds(t, x, 1+i%3, begin)
	}
	hold(0)
	turns(t, x, 4, api.SPrep, api.OK)
	hold(0)
	ends(t, x, 4, 6, api.OK)
	hold(0)
	turns(t, x, 4, api.SCommitted, api.OK)
	hold(5)
	turns(t, x, 4, api.SDone, api.OK)
	hold(5)
	turns(t, x, 3, api.SAborted, api.OK)
	hold(5)
	turns(t, x, 5, api.SPrep, api.OK)
	hold(5)
	turns(t, x, 5, api.SAborted, api.OK)
	hold(7)
	turns(t, x, 6, api.SAborted, api.OK)
	hold(9)
	turns(t, x, 2, api.SAborted, api.OK)
	hold(last)
	turns(t, x, 1, api.SAborted, api.OK)
	hold(math.MaxUint64)
}

// Promise 5.1: what only tells changes nothing.
func TestTellingChangesNothing(t *testing.T) {
	x := made(t, 2)
	adds(t, x, api.LSnap, 4)
	adds(t, x, api.LSerial, 2)
	turns(t, x, 2, api.SPrep, api.OK)
	ends(t, x, 2, 7, api.OK)
	for range 3 {
		is(t, x, 1, api.LSnap, api.SActive, 4, 0)
		is(t, x, 2, api.LSerial, api.SPrep, 2, 7)
		live(t, x, 1, 2)
		oldest(t, x, 9, 2)
		if x.Len() != 2 {
			t.Errorf("Len() = %d", x.Len())
		}
	}
	turns(t, x, 1, api.SPrep, api.OK)
	turns(t, x, 2, api.SCommitted, api.OK)
}

// plain is a Table in plain words, of which the tests below hold a Table against every call.
type plain struct {
	most int
	txns []api.Txn
}

func (p *plain) make(level int, begin uint64) (int, api.Errno) {
	if level != 1 && level != 2 && level != 3 || begin > last {
		return 0, api.ErrArg
	}
	if len(p.txns) == p.most {
		return 0, api.ErrMany
	}
	p.txns = append(p.txns, api.Txn{Level: level, State: 1, Begin: begin})
	return len(p.txns), api.OK
}

func (p *plain) turn(id, to int) api.Errno {
	if id < 1 || id > len(p.txns) {
		return api.ErrNone
	}
	next := [][]int{{}, {2, 4}, {3, 4}, {5}, {5}, {}}
	if !slices.Contains(next[p.txns[id-1].State], to) {
		return api.ErrState
	}
	p.txns[id-1].State = to
	return api.OK
}

func (p *plain) end(id int, end uint64) api.Errno {
	if id < 1 || id > len(p.txns) {
		return api.ErrNone
	}
	x := &p.txns[id-1]
	if x.State != 2 || x.End != 0 {
		return api.ErrState
	}
	if end == 0 || end > last || end <= x.Begin {
		return api.ErrArg
	}
	x.End = end
	return api.OK
}

// same holds all that a Table tells against the plain one.
func same(t *testing.T, x *Table, p *plain, now uint64) {
	t.Helper()
	if x.Len() != len(p.txns) {
		t.Fatalf("Len() = %d, want %d", x.Len(), len(p.txns))
	}
	var ids []int
	low := now
	for i, want := range p.txns {
		is(t, x, i+1, want.Level, want.State, want.Begin, want.End)
		if want.State == 1 || want.State == 2 {
			ids = append(ids, i+1)
			low = min(low, want.Begin)
		}
	}
	live(t, x, ids...)
	oldest(t, x, now, low)
}

// Promises 5.1 and 5.2: every sequence of six calls on one transaction.
func TestEverySequence(t *testing.T) {
	const calls, length = 8, 6
	for n := range 262144 { // calls^length
		x, p := made(t, 1), &plain{most: 1}
		adds(t, x, 2, 5)
		p.make(2, 5)
		for rest, i := n, 0; i < length; rest, i = rest/calls, i+1 {
			var got, want api.Errno
			switch c := rest % calls; c {
			case 0, 1, 2:
				at := []uint64{5, 6, 7}[c]
				got, want = x.End(1, at), p.end(1, at)
			default:
				got, want = x.Turn(1, c-2), p.turn(1, c-2)
			}
			if got != want {
				t.Fatalf("sequence %d, call %d: %d, want %d", n, i, got, want)
			}
		}
		if got, ok := x.Get(1); !ok || got != p.txns[0] {
			t.Fatalf("sequence %d: Get(1) = %v, %v; want %v", n, got, ok, p.txns[0])
		}
	}
}

// Promises 5.1 and 5.2: long runs of calls on Tables of several transactions.
func TestRuns(t *testing.T) {
	seed := uint64(5)
	next := func(m uint64) uint64 {
		seed = seed*6364136223846793005 + 1442695040888963407
		return seed >> 33 % m
	}
	times := []uint64{0, 1, 2, 3, 5, 8, last - 1, last, last + 1, math.MaxUint64}
	for range 400 {
		most := 1 + int(next(8))
		x, p := made(t, most), &plain{most: most}
		for range 120 {
			id, to := int(next(10))-1, int(next(8))-1
			at := times[next(uint64(len(times)))]
			switch next(8) {
			case 0:
				gotID, got := x.Make(to, at)
				if wantID, want := p.make(to, at); gotID != wantID || got != want {
					t.Fatalf("Make(%d, %d) = %d, %d; want %d, %d", to, at, gotID, got, wantID, want)
				}
			case 1, 2, 3:
				ends(t, x, id, at, p.end(id, at))
			default:
				turns(t, x, id, to, p.turn(id, to))
			}
			same(t, x, p, at)
		}
		if t.Failed() {
			return
		}
	}
}

// Promise 5.2: behind an outcome there is no other one, by no sequence of turns, and behind SDone there is no turn at all.
func TestATransactionEndsOnce(t *testing.T) {
	for _, way := range ways() {
		x := made(t, 1)
		adds(t, x, api.LSnap, 6)
		walk(t, x, 1, way, 8)
		outcomes := 0
		for _, to := range way {
			if to == api.SCommitted || to == api.SAborted {
				outcomes++
			}
		}
		for range 3 {
			for to := range 7 {
				if e := x.Turn(1, to); e == api.OK && (to == api.SCommitted || to == api.SAborted) {
					outcomes++
				}
			}
		}
		if outcomes != 1 {
			t.Errorf("way %v: %d outcomes", way, outcomes)
		}
		if got, _ := x.Get(1); got.State != api.SDone {
			t.Errorf("way %v: %v", way, got)
		}
	}
}

// Promise 5.2 and W3: what a transaction is ordered and judged by never changes once it is set: its level, its begin time, and its end time, which is above the begin time.
func TestTimesStay(t *testing.T) {
	x := made(t, 9)
	for i := range 9 {
		id := adds(t, x, 1+i%3, uint64(10*i))
		turns(t, x, id, api.SPrep, api.OK)
		ends(t, x, id, uint64(100-i), api.OK)
	}
	for i := range 9 {
		outcome := api.SCommitted + i%2
		turns(t, x, i+1, outcome, api.OK)
		ends(t, x, i+1, 200, api.ErrState)
		is(t, x, i+1, 1+i%3, outcome, uint64(10*i), uint64(100-i))
		turns(t, x, i+1, api.SDone, api.OK)
		ends(t, x, i+1, 200, api.ErrState)
		is(t, x, i+1, 1+i%3, api.SDone, uint64(10*i), uint64(100-i))
	}
}

// workers is how many call at a time in the tests of the section Ways.
const workers = 8

// together has each worker make its call for every transaction from 1 to n, all at a time and in one order, so that they meet at many of them; it returns each worker's answers by place id-1, which must be OK or ErrState.
func together(t *testing.T, n int, call func(k, id int) api.Errno) [workers][]api.Errno {
	t.Helper()
	var answers [workers][]api.Errno
	var all sync.WaitGroup
	start := make(chan struct{})
	for k := range workers {
		answers[k] = make([]api.Errno, n)
		all.Go(func() {
			<-start
			for i := range n {
				answers[k][i] = call(k, i+1)
			}
		})
	}
	close(start)
	all.Wait()
	for k, l := range answers {
		for i, e := range l {
			if e != api.OK && e != api.ErrState {
				t.Fatalf("worker %d, transaction %d: %d", k, i+1, e)
			}
		}
	}
	return answers
}

// winner returns the only worker whose call for a transaction was answered with OK.
func winner(t *testing.T, answers [workers][]api.Errno, id int) int {
	t.Helper()
	found := -1
	for k, l := range answers {
		if l[id-1] != api.OK {
			continue
		}
		if found >= 0 {
			t.Fatalf("transaction %d: OK for workers %d and %d", id, found, k)
		}
		found = k
	}
	if found < 0 {
		t.Fatalf("transaction %d: OK for nobody", id)
	}
	return found
}

// Section Ways: where many publish an outcome at a time, one of them does, whether they agree or not, and its state stands.
func TestAnOutcomeIsPublishedOnce(t *testing.T) {
	for range 5 { // two that meet between look and exchange are rare
		publishAtOnce(t, 30000)
	}
}

func publishAtOnce(t *testing.T, n int) {
	t.Helper()
	x := made(t, n)
	for id := 1; id <= n; id++ {
		adds(t, x, api.LSerial, 1)
		turns(t, x, id, api.SPrep, api.OK)
		ends(t, x, id, 7, api.OK)
	}
	outcome := func(k, id int) int { return api.SCommitted + (k+id)%2 }
	answers := together(t, n, func(k, id int) api.Errno { return x.Turn(id, outcome(k, id)) })
	for id := 1; id <= n; id++ {
		is(t, x, id, api.LSerial, outcome(winner(t, answers, id), id), 1, 7)
	}
	live(t, x)
	answers = together(t, n, func(_, id int) api.Errno { return x.Turn(id, api.SDone) })
	for id := 1; id <= n; id++ {
		winner(t, answers, id)
		is(t, x, id, api.LSerial, api.SDone, 1, 7)
	}
}

// Section Ways: where many set an end time at a time, one of them does, and its time stands.
func TestAnEndTimeIsSetOnce(t *testing.T) {
	const n = 30000
	x := made(t, n)
	for range n {
		adds(t, x, api.LSnap, 1)
	}
	answers := together(t, n, func(_, id int) api.Errno { return x.Turn(id, api.SPrep) })
	for id := 1; id <= n; id++ {
		winner(t, answers, id)
	}
	answers = together(t, n, func(k, id int) api.Errno { return x.End(id, uint64(10+k)) })
	for id := 1; id <= n; id++ {
		is(t, x, id, api.LSnap, api.SPrep, 1, uint64(10+winner(t, answers, id)))
	}
}

// Section Ways: where a transaction is prepared, given its end time and aborted at a time, the abort always comes about, once, and nothing follows it.
func TestAbortsAmongOthers(t *testing.T) {
	const n = 30000
	x := made(t, n)
	for range n {
		adds(t, x, api.LRepeat, 1)
	}
	answers := together(t, n, func(k, id int) api.Errno {
		switch (k + id) % 4 {
		case 0:
			return x.Turn(id, api.SAborted)
		case 1:
			return x.End(id, 9)
		}
		return x.Turn(id, api.SPrep)
	})
	for id := 1; id <= n; id++ {
		aborts, times, preps := 0, 0, 0
		for k, l := range answers {
			if l[id-1] != api.OK {
				continue
			}
			switch (k + id) % 4 {
			case 0:
				aborts++
			case 1:
				times++
			default:
				preps++
			}
		}
		if aborts != 1 || preps > 1 || times > preps {
			t.Fatalf("transaction %d: %d aborts, %d end times, %d turns to SPrep", id, aborts, times, preps)
		}
		is(t, x, id, api.LRepeat, api.SAborted, 1, uint64(9*times))
	}
}

// watch looks at a transaction until it is done, and tells whether each look saw what can follow the one before: no state goes back, no end time is undone, and none is set behind an outcome.
func watch(x *Table, id int) bool {
	was, _ := x.Get(id)
	for was.State != api.SDone {
		now, ok := x.Get(id)
		settled := was.End != 0 || was.State > api.SPrep
		if !ok || now.State < was.State || settled && now.End != was.End || now.End != 0 && now.End != 9 {
			return false
		}
		was = now
	}
	return true
}

// Section Ways: a look sees a state and an end time that stood together, and neither is undone by what is done beside it.
func TestLooksAreWhole(t *testing.T) {
	const watchers, rounds = 3, 400
	x := made(t, rounds)
	for range rounds {
		id := adds(t, x, api.LSerial, 1)
		good := make([]bool, watchers)
		ended := api.ErrState
		var all sync.WaitGroup
		for k := range watchers {
			all.Go(func() { good[k] = watch(x, id) })
		}
		all.Go(func() { ended = x.End(id, 9) })
		all.Go(func() {
			x.Turn(id, api.SPrep)
			x.Turn(id, api.SCommitted)
			x.Turn(id, api.SDone)
		})
		all.Wait()
		if slices.Contains(good, false) {
			t.Fatalf("a look at transaction %d saw what cannot be", id)
		}
		want := uint64(0)
		if ended == api.OK {
			want = 9
		}
		is(t, x, id, api.LSerial, api.SDone, 1, want)
	}
}

// Promise 5.3: no call panics, whatever it is given and whatever has been made.
func TestNoCallPanics(t *testing.T) {
	defer func() {
		if r := recover(); r != nil {
			t.Errorf("panic: %v", r)
		}
	}()
	ints := append(oddInts(5), 1, 2, 3, 4, 5, 65535)
	numbers := append(pastTimes(), 0, 1, last)
	for _, n := range ints {
		for _, m := range ints {
			Can(n, m)
		}
		x, e := New(n)
		if e != api.OK {
			continue
		}
		for range 3 {
			for _, id := range ints {
				for _, to := range ints {
					x.Turn(id, to)
				}
				for _, at := range numbers {
					x.End(id, at)
					x.Make(id, at)
					x.Oldest(at)
				}
				x.Get(id)
				x.Live()
				x.Len()
			}
		}
	}
}
