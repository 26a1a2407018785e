package bond

import (
	"math"
	"slices"
	"testing"

	"vinculum/api"
)

// The states and the number of ids by the numbers of the chapter.
const (
	open   = 1
	doomed = 2
	good   = 3
	bad    = 4
	most   = 2000
)

// plain is what the document says of Bonds: the states of the ids that were opened, and the bonds from each one, as they were made.
type plain struct {
	order []int
	state map[int]int
	bonds map[int][]int
}

// waits tells whether id waits for to, by the sentences of the chapter.
func (p *plain) waits(id, to int) bool {
	return slices.Contains(p.bonds[id], to) && p.state[to] != good
}

// all tells all that id waits for, directly or indirectly.
func (p *plain) all(id int) map[int]bool {
	found := map[int]bool{}
	rest := []int{id}
	for len(rest) > 0 {
		x := rest[0]
		rest = rest[1:]
		for _, to := range p.bonds[x] {
			if p.state[to] != good && !found[to] {
				found[to] = true
				rest = append(rest, to)
			}
		}
	}
	return found
}

// direct tells the ids that id waits for directly.
func (p *plain) direct(id int) []int {
	var l []int
	for _, to := range p.bonds[id] {
		if p.state[to] != good {
			l = append(l, to)
		}
	}
	slices.Sort(l)
	return l
}

// doom tells which ids became BDoomed.
func (p *plain) doom(id int) []int {
	var l []int
	for _, x := range p.order {
		if p.state[x] == open && (x == id || p.all(x)[id]) {
			p.state[x] = doomed
			l = append(l, x)
		}
	}
	slices.Sort(l)
	return l
}

// open tells what Open is to return.
func (p *plain) open(id int) api.Errno {
	switch {
	case id < 1:
		return api.ErrArg
	case p.state[id] != 0:
		return api.ErrExists
	case len(p.order) == most:
		return api.ErrMany
	}
	p.order = append(p.order, id)
	p.state[id] = open
	return api.OK
}

// bind tells what Bind is to return.
func (p *plain) bind(id, to int) api.Errno {
	switch {
	case p.state[id] == 0, p.state[to] == 0:
		return api.ErrNone
	case id == to:
		return api.ErrArg
	case p.state[id] != open && p.state[id] != doomed:
		return api.ErrState
	case p.state[to] == good, p.waits(id, to):
		return api.OK
	case p.state[to] == bad:
		p.doom(id)
		return api.OK
	case p.all(to)[id]:
		return api.ErrLoop
	}
	p.bonds[id] = append(p.bonds[id], to)
	if p.state[to] == doomed {
		p.doom(id)
	}
	return api.OK
}

// good tells what Good is to return.
func (p *plain) good(id int) ([]int, api.Errno) {
	switch {
	case p.state[id] == 0:
		return nil, api.ErrNone
	case p.state[id] != open:
		return nil, api.ErrState
	case len(p.direct(id)) > 0:
		return nil, api.ErrWait
	}
	var waited, l []int
	for _, x := range p.order {
		if p.waits(x, id) {
			waited = append(waited, x)
		}
	}
	p.state[id] = good
	for _, x := range waited {
		if (p.state[x] == open || p.state[x] == doomed) && len(p.direct(x)) == 0 {
			l = append(l, x)
		}
	}
	slices.Sort(l)
	return l, api.OK
}

// bad tells what Bad is to return.
func (p *plain) bad(id int) ([]int, api.Errno) {
	switch p.state[id] {
	case 0:
		return nil, api.ErrNone
	case good, bad:
		return nil, api.ErrState
	}
	var l []int
	for _, x := range p.doom(id) {
		if x != id {
			l = append(l, x)
		}
	}
	p.state[id] = bad
	return l, api.OK
}

// pair is Bonds beside the plain ones.
type pair struct {
	*Bonds
	p plain
}

// made is Bonds with these ids.
func made(t *testing.T, ids ...int) *pair {
	t.Helper()
	b := New()
	if b == nil {
		t.Fatal("New() = nil")
	}
	x := &pair{b, plain{state: map[int]int{}, bonds: map[int][]int{}}}
	for _, id := range ids {
		if e := x.opens(t, id); e != api.OK {
			t.Fatalf("Open(%d) = %d", id, e)
		}
	}
	return x
}

// upTo is the ids from 1 to n.
func upTo(n int) []int {
	var l []int
	for i := range n {
		l = append(l, i+1)
	}
	return l
}

func (x *pair) opens(t *testing.T, id int) api.Errno {
	t.Helper()
	e := x.Open(id)
	if want := x.p.open(id); e != want {
		t.Errorf("Open(%d) = %d, want %d", id, e, want)
	}
	return e
}

func (x *pair) binds(t *testing.T, id, to int) api.Errno {
	t.Helper()
	e := x.Bind(id, to)
	if want := x.p.bind(id, to); e != want {
		t.Errorf("Bind(%d, %d) = %d, want %d", id, to, e, want)
	}
	return e
}

func (x *pair) goods(t *testing.T, id int) ([]int, api.Errno) {
	t.Helper()
	l, e := x.Good(id)
	if want, err := x.p.good(id); !slices.Equal(l, want) || e != err {
		t.Errorf("Good(%d) = %v, %d; want %v, %d", id, l, e, want, err)
	}
	return l, e
}

func (x *pair) bads(t *testing.T, id int) ([]int, api.Errno) {
	t.Helper()
	l, e := x.Bad(id)
	if want, err := x.p.bad(id); !slices.Equal(l, want) || e != err {
		t.Errorf("Bad(%d) = %v, %d; want %v, %d", id, l, e, want, err)
	}
	return l, e
}

// asks holds what is told of one number, which is told each time.
func (x *pair) asks(t *testing.T, id int) {
	t.Helper()
	list := x.p.direct(id)
	for range 2 {
		if s := x.State(id); s != x.p.state[id] {
			t.Errorf("State(%d) = %d, want %d", id, s, x.p.state[id])
		}
		if l := x.For(id); !slices.Equal(l, list) {
			t.Errorf("For(%d) = %v, want %v", id, l, list)
		}
		if n := x.Waits(id); n != len(list) {
			t.Errorf("Waits(%d) = %d, want %d", id, n, len(list))
		}
	}
}

// tells holds what is told of all ids, of some that were perhaps not opened, and of what is none.
func (x *pair) tells(t *testing.T) {
	t.Helper()
	for _, id := range slices.Concat(x.p.order, someIDs(), noIDs()) {
		x.asks(t, id)
	}
}

// keeps holds the sets of each id that has not ended well: all that it waits for, and all that wait for it, directly or indirectly.
func (x *pair) keeps(t *testing.T) {
	t.Helper()
	for _, id := range x.p.order {
		if x.p.state[id] == good {
			continue
		}
		all := x.p.all(id)
		for _, to := range x.p.order {
			a, b := x.ids[id], x.ids[to]
			if a.below.has(b.place) != all[to] || x.p.state[to] != good && b.above.has(a.place) != all[to] {
				t.Errorf("%d waits for %d: %v", id, to, all[to])
			}
		}
	}
}

// noIDs are the numbers that are no ids: those next to the bound, those that wrap round to an id in fewer bits, and the end of the kind int.
func noIDs() []int {
	return []int{math.MinInt, math.MinInt + 1, math.MinInt + 5, math.MinInt32, -1 << 32, -1<<32 + 5, -65536 + 5, -2000, -5, -2, -1, 0}
}

// someIDs are the least ids, those next to the number of ids that there is room for, those that wrap round to another id in fewer bits, and the greatest ones.
func someIDs() []int {
	return []int{1, 2, 3, 5, 63, 64, 65, 1999, 2000, 2001, 65535, 65536, 65536 + 5, math.MaxInt32, 1 << 32, 1<<32 + 1, 1<<32 + 5, 1 << 40, math.MaxInt - 1, math.MaxInt}
}

// filled is Bonds with an id in each state, with and without bonds: 10 is BGood, 20 waited for it; 30 is BBad and waits for 40, 50 waits for 30, and 60 for 50; 70 is doomed by 30 without a bond; 80 is BBad and alone.
func filled(t *testing.T) *pair {
	t.Helper()
	x := made(t, 40, 10, 30, 20, 80, 60, 50, 70)
	x.binds(t, 20, 10)
	x.goods(t, 10)
	x.binds(t, 30, 40)
	x.binds(t, 50, 30)
	x.binds(t, 60, 50)
	x.binds(t, 60, 20)
	x.bads(t, 30)
	x.binds(t, 70, 30)
	x.bads(t, 80)
	states := map[int]int{10: good, 20: open, 30: bad, 40: open, 50: doomed, 60: doomed, 70: doomed, 80: bad}
	for id, s := range states {
		if x.State(id) != s {
			t.Fatalf("State(%d) = %d, want %d", id, x.State(id), s)
		}
	}
	return x
}

// full is Bonds with as many ids as there is room for, in mixed order: 2, 4, .. 4,000, of which each multiple of 14 waits for that of 2, 4 and 6 before it.
func full(t *testing.T) *pair {
	t.Helper()
	x := made(t)
	for n := range most {
		x.opens(t, n*777%most*2+2)
	}
	for id := 14; id <= 2*most; id += 14 {
		for to := id - 6; to < id; to += 2 {
			x.binds(t, id, to)
		}
	}
	return x
}

// Promise 16.1 and 16.2: the example of the chapter.
func TestExample(t *testing.T) {
	b := New()
	b.Open(1)
	b.Open(2)
	if e := b.Bind(2, 1); e != api.OK {
		t.Error(e)
	}
	if l, e := b.Good(2); len(l) != 0 || e != api.ErrWait {
		t.Error(l, e)
	}
	if l, e := b.Good(1); !slices.Equal(l, []int{2}) || e != api.OK {
		t.Error(l, e)
	}
}

// Promise 16.1: new Bonds have no ids, whatever other ones have.
func TestNewIsEmpty(t *testing.T) {
	made(t).tells(t)
	x, y := filled(t), made(t)
	y.tells(t)
	for _, id := range []int{70, 10, 50, 90} {
		y.opens(t, id)
	}
	y.binds(t, 10, 70)
	y.binds(t, 50, 10)
	y.bads(t, 10)
	y.goods(t, 70)
	x.tells(t)
	y.tells(t)
}

// Promise 16.1: ids of every size are opened, each once, whatever has become of it.
func TestOpen(t *testing.T) {
	x := made(t)
	for _, id := range someIDs() {
		if e := x.opens(t, id); e != api.OK {
			t.Errorf("Open(%d) = %d", id, e)
		}
		x.tells(t)
	}
	x.binds(t, 2, 1)
	x.goods(t, 1)
	x.binds(t, 5, 3)
	x.bads(t, 3)
	for _, id := range someIDs() {
		if e := x.opens(t, id); e != api.ErrExists {
			t.Errorf("Open(%d) again = %d", id, e)
		}
	}
	x.tells(t)
	for _, id := range noIDs() {
		if e := x.opens(t, id); e != api.ErrArg {
			t.Errorf("Open(%d) = %d", id, e)
		}
	}
	x.tells(t)
}

// Promise 16.1: there is room for 2,000 ids and for none more, also after some have ended; what is no id, and what was opened, is told first.
func TestRoom(t *testing.T) {
	x := made(t)
	for n := range most {
		if e := x.opens(t, 3*n+1); e != api.OK {
			t.Fatalf("id %d: %d", n, e)
		}
	}
	refuses := func() {
		t.Helper()
		for id, want := range map[int]api.Errno{2: api.ErrMany, 3: api.ErrMany, 6001: api.ErrMany, math.MaxInt: api.ErrMany, 1: api.ErrExists, 5998: api.ErrExists, 0: api.ErrArg, -1: api.ErrArg, math.MinInt: api.ErrArg} {
			if e := x.opens(t, id); e != want {
				t.Errorf("Open(%d) = %d, want %d", id, e, want)
			}
		}
	}
	refuses()
	x.binds(t, 5998, 1)
	x.goods(t, 1)
	x.bads(t, 5998)
	refuses()
	x.tells(t)
}

// Promise 16.1: the errors of Bind, of which what was not opened comes first, then what is equal, then what has ended.
func TestBindRefuses(t *testing.T) {
	x := filled(t)
	strange := slices.Concat(someIDs(), noIDs())
	for _, id := range append(slices.Clone(strange), x.p.order...) {
		for _, to := range strange {
			if e := x.binds(t, id, to); e != api.ErrNone {
				t.Errorf("Bind(%d, %d) = %d", id, to, e)
			}
			if e := x.binds(t, to, id); e != api.ErrNone {
				t.Errorf("Bind(%d, %d) = %d", to, id, e)
			}
		}
	}
	for _, id := range x.p.order {
		if e := x.binds(t, id, id); e != api.ErrArg {
			t.Errorf("Bind(%d, %d) = %d", id, id, e)
		}
	}
	for _, id := range []int{10, 30, 80} {
		for _, to := range x.p.order {
			if e := x.binds(t, id, to); to != id && e != api.ErrState {
				t.Errorf("Bind(%d, %d) = %d", id, to, e)
			}
		}
	}
	x.tells(t)
}

// Promise 16.1: Bind of an id in each state to one in each state, from Bonds that are the same each time, and what becomes of all others by it.
func TestEveryBind(t *testing.T) {
	for _, id := range []int{10, 20, 30, 40, 50, 60, 70, 80, 90} {
		for _, to := range []int{10, 20, 30, 40, 50, 60, 70, 80, 90} {
			x := filled(t)
			x.binds(t, id, to)
			x.tells(t)
			x.binds(t, id, to)
			x.tells(t)
			for _, other := range x.p.order {
				x.binds(t, to, other)
				x.binds(t, other, id)
			}
			x.tells(t)
		}
	}
}

// Promise 16.1: the four rules of Bind by hand.
func TestRules(t *testing.T) {
	x := filled(t)
	says := func(what string, e, want api.Errno, id, state int, list ...int) {
		t.Helper()
		if e != want || x.State(id) != state || !slices.Equal(x.For(id), list) || x.Waits(id) != len(list) {
			t.Errorf("%s: %d; %d is %d and waits for %v", what, e, id, x.State(id), x.For(id))
		}
	}
	says("to one that has ended well", x.Bind(20, 10), api.OK, 20, open)
	says("again", x.Bind(60, 50), api.OK, 60, doomed, 20, 50)
	says("again, to one that has ended badly", x.Bind(50, 30), api.OK, 50, doomed, 30)
	says("round by one between", x.Bind(20, 60), api.ErrLoop, 20, open)
	says("round by one that has ended badly", x.Bind(40, 60), api.ErrLoop, 40, open)
	says("round at once", x.Bind(50, 60), api.ErrLoop, 50, doomed, 30)
	says("to one that is doomed", x.Bind(20, 70), api.OK, 20, doomed, 70)
	says("of a doomed one to an open one", x.Bind(70, 40), api.OK, 70, doomed, 40)
	says("to one that has ended badly", x.Bind(40, 80), api.OK, 40, doomed)
	says("of a doomed one to a doomed one", x.Bind(50, 70), api.OK, 50, doomed, 30, 70)
	says("round by many", x.Bind(40, 60), api.ErrLoop, 40, doomed)
}

// Promise 16.1: who waits for an id, directly or by others, is doomed with it; who does not is not, also if it is waited for.
func TestDoomGoesUp(t *testing.T) {
	// 1 and 2 are waited for by 3; 3 by 4 and 5; 5 by 6; 7 waits for 2 alone.
	set := func() *pair {
		x := made(t, 4, 7, 1, 6, 3, 8, 5, 2)
		for _, b := range [][2]int{{5, 3}, {3, 1}, {6, 5}, {4, 3}, {3, 2}, {7, 2}} {
			x.binds(t, b[0], b[1])
		}
		return x
	}
	for id, want := range map[int][]int{1: {3, 4, 5, 6}, 2: {3, 4, 5, 6, 7}, 3: {4, 5, 6}, 4: nil, 5: {6}, 6: nil, 7: nil, 8: nil} {
		x := set()
		if l, e := x.bads(t, id); !slices.Equal(l, want) || e != api.OK {
			t.Errorf("Bad(%d) = %v, %d; want %v", id, l, e, want)
		}
		x.tells(t)
		// By a bond to one that is doomed or has ended badly the same ids are doomed, and id itself.
		for _, to := range []int{30, 40} {
			x = set()
			x.opens(t, 30)
			x.opens(t, 40)
			x.binds(t, 40, 30)
			x.bads(t, 30)
			x.binds(t, id, to)
			for _, other := range upTo(8) {
				s := x.State(other)
				if (s == doomed) != (other == id || slices.Contains(want, other)) {
					t.Errorf("Bind(%d, %d): %d is %d", id, to, other, s)
				}
			}
			x.tells(t)
		}
	}
}

// Promises 16.1 and 16.3: there is no loop of any length, wherever it would be closed; a bond that is refused changes nothing.
func TestNoLoops(t *testing.T) {
	for _, n := range []int{2, 3, 4, 10, 64, 65, 130} {
		x := made(t, upTo(n)...)
		// 131 is prime, so that each place comes once.
		for i := range n - 1 {
			at := i*131%(n-1) + 1
			if e := x.binds(t, at+1, at); e != api.OK {
				t.Fatalf("Bind(%d, %d) = %d", at+1, at, e)
			}
		}
		for id := range n {
			for to := id + 1; to < n; to++ {
				if e := x.binds(t, id+1, to+1); e != api.ErrLoop {
					t.Errorf("Bind(%d, %d) = %d", id+1, to+1, e)
				}
			}
		}
		x.tells(t)
		// What has ended badly in between still waits, and what has ended well does not.
		x.bads(t, n/2+1)
		if e := x.binds(t, 1, n); n > 3 && e != api.ErrLoop {
			t.Errorf("Bind(1, %d) = %d", n, e)
		}
		x.goods(t, 1)
		x.tells(t)
	}
}

// Promise 16.1: a way that is no more, since one of it has ended well, is no loop.
func TestWaysEnd(t *testing.T) {
	x := made(t, 1, 2, 3, 4)
	x.binds(t, 2, 1)
	x.binds(t, 3, 2)
	x.binds(t, 4, 3)
	if e := x.binds(t, 2, 4); e != api.ErrLoop {
		t.Error(e)
	}
	x.goods(t, 1)
	x.goods(t, 2)
	x.tells(t)
	if l := x.For(3); len(l) != 0 {
		t.Error(l)
	}
	if e := x.binds(t, 3, 4); e != api.ErrLoop {
		t.Error(e)
	}
	x.goods(t, 3)
	x.goods(t, 4)
	x.tells(t)
}

// Promise 16.2: the errors of Good and Bad, in every state, which change nothing.
func TestEndsRefuse(t *testing.T) {
	x := filled(t)
	for _, id := range slices.Concat(someIDs(), noIDs()) {
		if l, e := x.goods(t, id); len(l) != 0 || e != api.ErrNone {
			t.Errorf("Good(%d) = %v, %d", id, l, e)
		}
		if l, e := x.bads(t, id); len(l) != 0 || e != api.ErrNone {
			t.Errorf("Bad(%d) = %v, %d", id, l, e)
		}
	}
	for id, want := range map[int]api.Errno{10: api.ErrState, 30: api.ErrState, 50: api.ErrState, 60: api.ErrState, 70: api.ErrState, 80: api.ErrState} {
		if l, e := x.goods(t, id); len(l) != 0 || e != want {
			t.Errorf("Good(%d) = %v, %d", id, l, e)
		}
	}
	for _, id := range []int{10, 30, 80} {
		if l, e := x.bads(t, id); len(l) != 0 || e != api.ErrState {
			t.Errorf("Bad(%d) = %v, %d", id, l, e)
		}
	}
	x.tells(t)
	x.binds(t, 20, 40)
	if l, e := x.goods(t, 20); len(l) != 0 || e != api.ErrWait {
		t.Error(l, e)
	}
	x.tells(t)
}

// Promise 16.2: a doomed id is told of as doomed, also where it waits for one.
func TestStateAheadOfWait(t *testing.T) {
	x := made(t, 1, 2, 3)
	x.binds(t, 2, 1)
	x.bads(t, 3)
	x.binds(t, 2, 3)
	if _, e := x.goods(t, 2); e != api.ErrState {
		t.Error(e)
	}
	x.goods(t, 1)
	if _, e := x.goods(t, 2); e != api.ErrState {
		t.Error(e)
	}
	if l, e := x.bads(t, 2); len(l) != 0 || e != api.OK {
		t.Error(l, e)
	}
	x.tells(t)
}

// Promise 16.2: Good tells, ascending, who waited for the id alone: open ones and doomed ones, but none that has ended, and none that waits for another one too.
func TestGoodTells(t *testing.T) {
	x := made(t, 9, 1, 8, 2, 7, 3, 6, 4, 5)
	x.binds(t, 8, 1)
	x.binds(t, 7, 1)
	x.binds(t, 7, 2)
	x.binds(t, 6, 1)
	x.binds(t, 5, 8)
	x.binds(t, 4, 1)
	x.binds(t, 9, 1)
	x.bads(t, 3)
	x.binds(t, 6, 3)
	x.bads(t, 4)
	if l, e := x.goods(t, 1); !slices.Equal(l, []int{6, 8, 9}) || e != api.OK {
		t.Error(l, e)
	}
	x.tells(t)
	if l, e := x.goods(t, 2); !slices.Equal(l, []int{7}) || e != api.OK {
		t.Error(l, e)
	}
	if l, e := x.goods(t, 8); !slices.Equal(l, []int{5}) || e != api.OK {
		t.Error(l, e)
	}
	x.tells(t)
}

// Promise 16.2: who waits for one that has ended badly waits on, though others that it waited for end well.
func TestWaitsInVain(t *testing.T) {
	x := made(t, 1, 2, 3, 4)
	x.binds(t, 4, 3)
	x.binds(t, 4, 2)
	x.binds(t, 4, 1)
	x.bads(t, 2)
	if l := x.For(4); !slices.Equal(l, []int{1, 2, 3}) {
		t.Error(l)
	}
	x.goods(t, 3)
	x.goods(t, 1)
	if l := x.For(4); !slices.Equal(l, []int{2}) {
		t.Error(l)
	}
	x.tells(t)
	x.bads(t, 4)
	if l := x.For(4); !slices.Equal(l, []int{2}) || x.Waits(4) != 1 {
		t.Error(l)
	}
	x.tells(t)
}

// Promise 16.2: what has ended badly still waits for those that have not ended well.
func TestForAfterEnd(t *testing.T) {
	x := made(t, 5, 3, 1, 4, 2)
	for _, to := range []int{4, 1, 5, 2} {
		x.binds(t, 3, to)
	}
	x.bads(t, 3)
	for i, id := range []int{2, 5, 1, 4} {
		x.asks(t, 3)
		if n := x.Waits(3); n != 4-i {
			t.Error(n)
		}
		if l, e := x.goods(t, id); len(l) != 0 || e != api.OK {
			t.Error(l, e)
		}
	}
	x.tells(t)
}

// Promise 16.2: For is ascending by ids, in whatever order they were opened and bound; so are the lists of Good and Bad.
func TestAscending(t *testing.T) {
	ids := someIDs()
	for _, step := range []int{1, 3, 7, 19} {
		order := make([]int, len(ids))
		for i := range ids {
			order[i] = ids[i*step%len(ids)]
		}
		x := made(t, order...)
		x.opens(t, 100)
		x.opens(t, 99)
		for i := range ids {
			x.binds(t, 100, ids[i*(20-step)%len(ids)])
			x.binds(t, ids[i*(20-step)%len(ids)], 99)
		}
		if l := x.For(100); !slices.Equal(l, ids) {
			t.Error(l)
		}
		x.tells(t)
		y := made(t, order...)
		y.opens(t, 99)
		for _, id := range order {
			y.binds(t, id, 99)
		}
		l, _ := x.bads(t, 99)
		m, _ := y.goods(t, 99)
		want := slices.Sorted(slices.Values(append(slices.Clone(ids), 100)))
		if !slices.Equal(l, want) || !slices.Equal(m, ids) {
			t.Error(l, m)
		}
	}
}

// spoil writes over a list and over the room behind it.
func spoil(l []int) {
	l = l[:cap(l)]
	for i := range l {
		l[i] = 77
	}
}

// Rule 3: what is told is the caller's own: neither the Bonds nor another answer have it.
func TestResultsApart(t *testing.T) {
	x := made(t, upTo(9)...)
	for _, id := range []int{5, 6, 7} {
		x.binds(t, id, 1)
		x.binds(t, id, 2)
		x.binds(t, 8, id)
	}
	first, second := x.For(8), x.For(8)
	spoil(first)
	if !slices.Equal(second, []int{5, 6, 7}) {
		t.Error(second)
	}
	x.tells(t)
	for _, id := range []int{1, 2} {
		l, _ := x.Good(id)
		x.p.good(id)
		spoil(l)
		x.tells(t)
	}
	l, _ := x.Bad(5)
	x.p.bad(5)
	spoil(l)
	x.tells(t)
}

// end ends an id, well or badly.
func (x *pair) end(t *testing.T, id int, well bool) {
	t.Helper()
	if well {
		x.goods(t, id)
	} else {
		x.bads(t, id)
	}
}

// Section Ways: an end is published once, by the Once of the id: it stays whatever comes after it, and what it tells of others is told by it alone.
func TestEndsOnce(t *testing.T) {
	for bits := range 1 << 6 {
		x := made(t, 1, 2, 3)
		x.binds(t, 2, 1)
		x.binds(t, 3, 1)
		ends := 0
		for i := range 6 {
			var e api.Errno
			var l []int
			if bits>>i&1 == 1 {
				l, e = x.goods(t, 1)
			} else {
				l, e = x.bads(t, 1)
			}
			if e == api.OK {
				ends++
			}
			if (e == api.OK) != (len(l) > 0) {
				t.Error(e, l)
			}
			x.tells(t)
		}
		want := bad
		if bits&1 == 1 {
			want = good
		}
		if s := x.State(1); ends != 1 || s != want {
			t.Errorf("%b: %d ends, and the state is %d", bits, ends, s)
		}
	}
}

// Section Ways: the Once of an id is done with its end, and with nothing else.
func TestEndedByTheOnce(t *testing.T) {
	x := filled(t)
	x.binds(t, 20, 40)
	x.goods(t, 20)
	x.goods(t, 50)
	for _, id := range x.p.order {
		open := false
		x.ids[id].end.Do(func() { open = true })
		if s := x.p.state[id]; open == (s == good || s == bad) {
			t.Errorf("%d is %d: open is %v", id, s, open)
		}
	}
}

// permutations are all orders of some numbers.
func permutations(l []int) [][]int {
	if len(l) == 0 {
		return [][]int{nil}
	}
	var all [][]int
	for i, n := range l {
		for _, rest := range permutations(slices.Delete(slices.Clone(l), i, i+1)) {
			all = append(all, append([]int{n}, rest...))
		}
	}
	return all
}

// Promises 16.1 to 16.3: every way in which four ids can wait for one another, opened up, down and mixed, and ended in every order, each one well or badly.
func TestEveryWayToEnd(t *testing.T) {
	bonds := [][2]int{{4, 1}, {3, 2}, {4, 3}, {2, 1}, {4, 2}, {3, 1}}
	for which := range 1 << len(bonds) {
		for _, order := range [][]int{{1, 2, 3, 4}, {4, 3, 2, 1}, {3, 1, 4, 2}} {
			for _, ends := range permutations([]int{1, 2, 3, 4}) {
				for well := range 1 << 4 {
					x := made(t, order...)
					for i, b := range bonds {
						if which>>i&1 == 1 {
							x.binds(t, b[0], b[1])
						}
					}
					for i, id := range ends {
						x.end(t, id, well>>i&1 == 1)
					}
					for _, id := range order {
						x.asks(t, id)
					}
				}
			}
			if t.Failed() {
				t.Fatalf("bonds %b, opened %v", which, order)
			}
		}
	}
}

// Promises 16.1 to 16.3: every sequence of five calls on three ids.
func TestEverySequence(t *testing.T) {
	const calls = 5
	var all []func(x *pair)
	for id := 1; id <= 3; id++ {
		for to := 1; to <= 3; to++ {
			if id != to {
				all = append(all, func(x *pair) { x.binds(t, id, to) })
			}
		}
		all = append(all, func(x *pair) { x.goods(t, id) }, func(x *pair) { x.bads(t, id) })
	}
	choices := 1
	for range calls {
		choices *= len(all)
	}
	for number := range choices {
		x := made(t, 2, 1, 3)
		for rest, n := number, 0; n < calls; n++ {
			all[rest%len(all)](x)
			rest /= len(all)
		}
		for id := 1; id <= 3; id++ {
			x.asks(t, id)
		}
		if t.Failed() {
			t.Fatalf("sequence %d", number)
		}
	}
}

// draws is a row of numbers that look drawn.
type draws uint64

func (d *draws) draw(m int) int {
	*d = *d*6364136223846793005 + 1442695040888963407
	return int(*d >> 33 % draws(m))
}

// number is mostly one of the ids up to n, and sometimes another one or none.
func (d *draws) number(n int) int {
	switch d.draw(40) {
	case 0:
		return noIDs()[d.draw(len(noIDs()))]
	case 1:
		return someIDs()[d.draw(len(someIDs()))]
	}
	return d.draw(n) + 1
}

// call makes one call that is drawn: mostly bonds, some of them against the order of the ids, and few ends.
func (d *draws) call(t *testing.T, x *pair, n int) {
	t.Helper()
	id, to := d.number(n), d.number(n)
	switch kind := d.draw(24); {
	case kind < 2:
		x.opens(t, id)
	case kind < 6:
		x.goods(t, id)
	case kind == 6:
		x.bads(t, id)
	case kind < 9:
		x.binds(t, min(id, to), max(id, to))
	default:
		x.binds(t, max(id, to), min(id, to))
	}
	x.asks(t, id)
	x.asks(t, to)
}

// Promises 16.1 to 16.4: long runs of calls on two Bonds, with few ids and with many, and with numbers of every kind.
func TestRuns(t *testing.T) {
	d := draws(1)
	for round := range 400 {
		n := 2 + d.draw(12)
		if round%20 == 0 {
			n = 100 + d.draw(100)
		}
		l := []*pair{made(t, upTo(n)...), made(t)}
		for range 30 * n {
			d.call(t, l[min(d.draw(4), 1)], n)
		}
		for _, x := range l {
			x.tells(t)
			x.keeps(t)
		}
		if t.Failed() {
			t.Fatalf("round %d", round)
		}
	}
}

// Promises 16.1 to 16.3: a run with as many ids as there is room for.
func TestFullRun(t *testing.T) {
	x := full(t)
	x.tells(t)
	d := draws(3)
	for range 4000 {
		id, to := 2*d.draw(most)+2, 2*d.draw(most)+2
		switch d.draw(9) {
		case 0:
			x.goods(t, id)
		case 1:
			x.bads(t, id)
		case 2:
			x.binds(t, min(id, to), max(id, to))
		default:
			x.binds(t, max(id, to), min(id, to))
		}
	}
	x.tells(t)
}

// Promise 16.4: 2,000 ids in a row, of which each waits for the one before it: the first one dooms all, or lets them end one after the other.
func TestLongRow(t *testing.T) {
	for _, well := range []bool{true, false} {
		for _, up := range []bool{true, false} {
			b := New()
			for _, id := range upTo(most) {
				b.Open(id)
			}
			for i := 1; i < most; i++ {
				id := i
				if !up {
					id = most - i
				}
				if e := b.Bind(id+1, id); e != api.OK {
					t.Fatal(id, e)
				}
			}
			if e := b.Bind(1, most); e != api.ErrLoop {
				t.Error(e)
			}
			if !well {
				if l, e := b.Bad(1); !slices.Equal(l, upTo(most)[1:]) || e != api.OK {
					t.Error(len(l), e)
				}
				continue
			}
			for id := 1; id <= most; id++ {
				l, e := b.Good(id)
				if next := upTo(most)[id:min(id+1, most)]; !slices.Equal(l, next) || e != api.OK {
					t.Fatal(id, l, e)
				}
			}
		}
	}
}

// Promise 16.4: all bonds that 2,000 ids can have, in several orders; then all end.
func TestAllBonds(t *testing.T) {
	for _, step := range []int{1, 777, 1999} {
		b := New()
		for _, id := range upTo(most) {
			b.Open(id)
		}
		for n := range most {
			id := n*step%most + 1
			for to := 1; to < id; to++ {
				if e := b.Bind(id, to); e != api.OK {
					t.Fatal(id, to, e)
				}
			}
		}
		if n := b.Waits(most); n != most-1 {
			t.Error(n)
		}
		for id := 1; id < most; id++ {
			if e := b.Bind(id, most); e != api.ErrLoop {
				t.Fatal(id, e)
			}
		}
		for id := 1; id <= most; id++ {
			if l, e := b.Good(id); !slices.Equal(l, upTo(most)[id:min(id+1, most)]) || e != api.OK {
				t.Fatal(id, l, e)
			}
		}
	}
}

// Promise 16.4: no call panics, and each one ends, whatever the numbers and whatever was done before.
func TestHostileNumbers(t *testing.T) {
	all := slices.Concat(noIDs(), someIDs())
	for _, x := range []*pair{made(t), made(t, someIDs()...), filled(t)} {
		for _, id := range all {
			for _, to := range all {
				x.binds(t, id, to)
			}
			x.asks(t, id)
		}
		for _, id := range all {
			x.goods(t, id)
			x.opens(t, id)
			x.bads(t, id)
		}
		x.tells(t)
	}
}
