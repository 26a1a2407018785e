package outcome

import (
	"slices"
	"testing"

	"vinculum/api"
	"vinculum/see"
	"vinculum/word"
)

// The tests of this file hold W5 as far as it hangs on outcomes: transactions see by package see what the Outcomes of the others let them, and several of those who know of a reason tell how a transaction ends, in any order.

// version is a value of a key, from one word to another.
type version struct {
	value      int
	begin, end uint64
}

// txn is a transaction. It writes its own id to the key of this number, reads others, draws its end time, and ends: well as soon as its gate has been passed by all that it has bonds to. The gate is made when its bonds are known, and not before.
type txn struct {
	id         int
	reads      []int
	quits      bool
	at         int
	begin, end uint64
	seen       map[int]int
	bonds      []*txn
	out        *Outcome
	gate       *Lazy[*Gate]
	reason     int
	place      int
	settled    bool
}

// counts is what the runs came to.
type counts struct{ good, asked, cascade, killed, bonds, waits, late, second int }

// world is the versions of all keys and the transactions on them. Whoever waits for one that was aborted is owed word of it, which comes at some later step.
type world struct {
	t     *testing.T
	c     *counts
	clock uint64
	keys  map[int][]*version
	txns  []*txn
	owed  []*txn
	place int
}

func inWorld(t *testing.T, c *counts, txns []*txn) *world {
	w := &world{t: t, c: c, clock: 1, keys: map[int][]*version{}}
	for i, x := range txns {
		x.id, x.out, x.seen = i+1, New(), map[int]int{}
		x.gate = Make(func() *Gate { return w.gateOf(x) })
		w.keys[x.id] = []*version{{-x.id, 1, word.Forever()}}
	}
	w.txns = txns
	return w
}

// gateOf makes the gate of a transaction, which those have passed already that committed before.
func (w *world) gateOf(x *txn) *Gate {
	g := NewGate(len(x.bonds))
	for _, y := range x.bonds {
		if state, _, _ := y.out.Get(); state == api.SCommitted {
			w.c.late++
			if !g.Pass() {
				w.t.Errorf("the gate of %d is closed", x.id)
			}
		}
	}
	return g
}

// look tells what is known of a transaction.
func (w *world) look(id int) (api.Txn, bool) {
	x := w.txns[id-1]
	a := api.Txn{Level: api.LSnap, State: api.SActive, Begin: x.begin, End: x.end}
	if x.end != 0 {
		a.State = api.SPrep
	}
	if state, _, told := x.out.Get(); told {
		a.State = state
	}
	return a, true
}

// step makes the next step of a transaction.
func (w *world) step(x *txn) {
	_, _, told := x.out.Get()
	switch {
	case told:
		w.settles(x)
	case x.begin == 0:
		w.starts(x)
	case x.at < len(x.reads):
		w.reads(x, x.reads[x.at])
		x.at++
	case x.end == 0:
		w.clock++
		x.end = w.clock
	case x.quits:
		w.aborts(x, api.RAsked)
	case x.gate.Get().Left() > 0:
		w.c.waits++
	default:
		w.commits(x)
	}
}

func wordOf(id int) uint64 {
	n, _ := word.Txn(id)
	return n
}

// starts begins a transaction, which writes its key.
func (w *world) starts(x *txn) {
	w.clock++
	x.begin = w.clock
	w.keys[x.id][0].end = wordOf(x.id)
	w.keys[x.id] = append(w.keys[x.id], &version{x.id, wordOf(x.id), word.Forever()})
}

// reads looks at all versions of a key, and bonds the transaction to those on which it hangs what was seen.
func (w *world) reads(x *txn, key int) {
	for _, v := range w.keys[key] {
		seen, on := see.See(v.begin, v.end, x.id, x.begin, w.look)
		if seen == api.VYes {
			x.seen[key] = v.value
		}
		for _, id := range on {
			if y := w.txns[id-1]; !slices.Contains(x.bonds, y) {
				x.bonds = append(x.bonds, y)
				w.c.bonds++
			}
		}
	}
}

// commits ends a transaction well, and lets it pass the gates of those that wait for it. A gate that is not made yet counts it when it is.
func (w *world) commits(x *txn) {
	if !w.tells(x, api.SCommitted, 0) {
		w.t.Errorf("%d has not decided", x.id)
	}
	w.c.good++
	for _, y := range w.txns {
		if _, _, told := y.out.Get(); !told && slices.Contains(y.bonds, x) && y.gate.Done() && !y.gate.Get().Pass() {
			w.t.Errorf("%d can't pass the gate of %d", x.id, y.id)
		}
	}
}

// aborts tells that a transaction ends badly. Whoever decides that owes word of it to all that have bonds to the transaction.
func (w *world) aborts(x *txn, reason int) {
	if !w.tells(x, api.SAborted, reason) {
		w.c.second++
		return
	}
	switch reason {
	case api.RAsked:
		w.c.asked++
	case api.RCascade:
		w.c.cascade++
	default:
		w.c.killed++
	}
	for _, y := range w.txns {
		if slices.Contains(y.bonds, x) {
			w.owed = append(w.owed, y)
		}
	}
}

// tells holds that the first to tell decides, and nobody else.
func (w *world) tells(x *txn, state, reason int) bool {
	decided := x.out.Tell(state, reason)
	if decided != (x.place == 0) {
		w.t.Errorf("%d decides: %v, and it was told %d times", x.id, decided, x.out.Count())
	}
	if decided {
		w.place++
		x.place, x.reason = w.place, reason
	}
	return decided
}

// settles replaces the words of a transaction that has committed by its end time, and takes back what one that was aborted has written.
func (w *world) settles(x *txn) {
	x.settled = true
	state, _, _ := x.out.Get()
	l := w.keys[x.id]
	switch {
	case state == api.SCommitted:
		l[0].end, l[1].begin = x.end, x.end
	case len(l) == 2:
		l[0].end = word.Forever()
		w.keys[x.id] = l[:1]
	}
}

// news gives the one at a place word that a transaction on which it hangs was aborted.
func (w *world) news(at int) {
	x := w.owed[at]
	w.owed = slices.Delete(w.owed, at, at+1)
	w.aborts(x, api.RCascade)
}

// open are the transactions that have steps to make.
func (w *world) open() []*txn {
	var l []*txn
	for _, x := range w.txns {
		if !x.settled {
			l = append(l, x)
		}
	}
	return l
}

// holds holds of each transaction that its Outcome is what the first one told, that it commits only after all that it has bonds to, each with a smaller end time, and that it then had seen what these left.
func (w *world) holds() {
	for _, x := range w.txns {
		state, reason, told := x.out.Get()
		if !told || reason != x.reason {
			w.t.Errorf("%d has ended by %d, and was told %d", x.id, reason, x.reason)
		}
		if state != api.SCommitted {
			continue
		}
		for _, y := range x.bonds {
			if s, _, _ := y.out.Get(); s != api.SCommitted || y.place > x.place || y.end >= x.end {
				w.t.Errorf("%d has committed, and %d, to which it has a bond, is %d", x.id, y.id, s)
			}
		}
		for _, key := range x.reads {
			y, want := w.txns[key-1], -key
			if s, _, _ := y.out.Get(); key == x.id || s == api.SCommitted && y.end <= x.begin {
				want = key
			}
			if x.seen[key] != want {
				w.t.Errorf("%d has committed, and saw %d of key %d, not %d", x.id, x.seen[key], key, want)
			}
		}
	}
}

// tell holds that the runs tell something.
func (c *counts) tell(t *testing.T) {
	t.Helper()
	if min(c.good, c.asked, c.cascade, c.killed, c.bonds, c.waits, c.late, c.second) < 200 {
		t.Errorf("the runs tell little: %+v", *c)
	}
}

// orders hands each order of n steps of each of some to a function.
func orders(left []int, made []int, hand func([]int)) {
	done := true
	for i := range left {
		if left[i] == 0 {
			continue
		}
		done = false
		left[i]--
		orders(left, append(made, i), hand)
		left[i]++
	}
	if done {
		hand(made)
	}
}

// runs makes the steps of an order, and then of those that are open in turn. Word of an abort comes as soon as it can, or as late.
func (w *world) runs(order []int, late bool) {
	for _, i := range order {
		if x := w.txns[i]; !x.settled {
			w.step(x)
		}
		for !late && len(w.owed) > 0 {
			w.news(0)
		}
	}
	for range 50 {
		for len(w.owed) > 0 {
			w.news(len(w.owed) - 1)
		}
		for _, x := range w.open() {
			w.step(x)
		}
	}
	if len(w.open()) > 0 {
		w.t.Errorf("%d transactions do not end", len(w.open()))
	}
	w.holds()
}

// W5: three transactions in every order of their steps: the first one commits or aborts, the second one reads what it writes, and the third one what both write.
func TestEveryOrderOfThree(t *testing.T) {
	var c counts
	for way := range 8 {
		orders([]int{2, 5, 6}, nil, func(order []int) {
			if t.Failed() {
				return
			}
			w := inWorld(t, &c, []*txn{{quits: way&1 == 1}, {reads: []int{1}, quits: way&2 == 2}, {reads: []int{2, 1}}})
			w.step(w.txns[0])
			w.step(w.txns[0])
			w.runs(order, way&4 == 4)
			if t.Failed() {
				t.Errorf("way %d in the order %v", way, order)
			}
		})
	}
	c.killed = c.good
	c.tell(t)
}

// W5, 18.2: many transactions in drawn orders. Somebody from without tells now and then that one is to be aborted, which counts only if it has not ended.
func TestDrawnOrders(t *testing.T) {
	d := draws(3)
	var c counts
	for round := range 4000 {
		l := make([]*txn, 2+d.below(12))
		for i := range l {
			l[i] = &txn{quits: d.below(5) == 0}
			for range d.below(5) {
				l[i].reads = append(l[i].reads, 1+d.below(len(l)))
			}
		}
		w := inWorld(t, &c, l)
		for range 60 * len(l) {
			open := w.open()
			switch {
			case len(open) == 0:
			case len(w.owed) > 0 && d.below(3) == 0:
				w.news(d.below(len(w.owed)))
			case d.below(40) == 0:
				if x := l[d.below(len(l))]; x.begin != 0 {
					w.aborts(x, api.RInvalid)
				}
			default:
				x := open[d.below(len(open))]
				if x.end != 0 {
					x = open[d.below(len(open))]
				}
				w.step(x)
			}
		}
		w.runs(nil, true)
		if t.Failed() {
			t.Fatalf("round %d", round)
		}
	}
	c.tell(t)
}
