package bond

import (
	"slices"
	"testing"

	"vinculum/api"
	"vinculum/see"
	"vinculum/table"
	"vinculum/word"
)

// The tests of this file hold W5: transactions that read and write versions in steps, in many orders, that see by package see, and that end as Bonds let them.

// few is how many keys the transactions have.
const few = 3

// version is a value of a key, from one word to another.
type version struct {
	value      int
	begin, end uint64
}

// left is what a transaction that committed left of a key: a value, or -1.
type left struct {
	end        uint64
	key, value int
}

// act is a call of a transaction.
type act struct{ kind, key int }

// sight is what a transaction found in a key that it had not written: a value, or -1.
type sight struct{ key, value int }

// txn is a transaction. It aborts ahead of the call, or of the part of its commit, that has the number quits. It owes the bonds of its last read until its next step, so that what it is to wait for may have ended by then.
type txn struct {
	id         int
	acts       []act
	quits      int
	hasty      bool
	at         int
	begin, end uint64
	wrote      [few]int
	touched    [few]bool
	seen       []sight
	owes       []int
	bound      []int
	ended      bool
	good       bool
	settled    bool
}

// counts is what the runs came to.
type counts struct{ good, quit, first, cascade, bonds, waits, lateGood, lateBad, chains int }

// world is the versions of all keys, the newest first, and the transactions on them.
type world struct {
	t     *testing.T
	c     *counts
	table *table.Table
	bonds *Bonds
	clock uint64
	keys  [few][]*version
	txns  []*txn
	left  []left
	last  int
}

func inWorld(t *testing.T, c *counts) *world {
	tab, _ := table.New(most)
	return &world{t: t, c: c, table: tab, bonds: New()}
}

// starts begins a transaction.
func (w *world) starts(x *txn) {
	w.clock++
	x.begin = w.clock
	x.id, _ = w.table.Make(api.LSnap, x.begin)
	w.txns = append(w.txns, x)
	if e := w.bonds.Open(x.id); e != api.OK {
		w.t.Errorf("Open(%d) = %d", x.id, e)
	}
}

// word is the word of a transaction.
func (x *txn) word() uint64 {
	n, _ := word.Txn(x.id)
	return n
}

// next tells the number of the next call or part of the commit.
func (x *txn) next() int {
	if x.end != 0 {
		return x.at + 1
	}
	return x.at
}

// step makes the next step of a transaction.
func (w *world) step(x *txn) {
	switch {
	case x.id == 0:
		w.starts(x)
	case x.ended:
		w.settles(x)
	case x.next() == x.quits:
		w.c.quit++
		w.aborts(x)
	case x.hasty && w.bonds.State(x.id) == api.BDoomed:
		w.c.cascade++
		w.aborts(x)
	case len(x.owes) > 0:
		w.pays(x)
	case x.at < len(x.acts):
		x.at++
		w.acts(x, x.acts[x.at-1])
	case x.end == 0:
		w.prepares(x)
	default:
		w.commits(x)
	}
}

// acts makes a call.
func (w *world) acts(x *txn, a act) {
	switch {
	case a.kind == api.OGet:
		w.reads(x, a.key)
	case !w.writes(x, a):
		w.c.first++
		w.aborts(x)
	}
}

// reads looks at all versions of a key at the time of the begin, and notes on which transactions it hung what was seen.
func (w *world) reads(x *txn, key int) {
	found := sight{key, -1}
	for _, v := range w.keys[key] {
		seen, on := see.See(v.begin, v.end, x.id, x.begin, w.table.Get)
		if seen == api.VAgain || seen == api.VYes && found.value >= 0 {
			w.t.Errorf("%d sees %d of %v", x.id, seen, *v)
		}
		if seen == api.VYes {
			found.value = v.value
		}
		x.owes = append(x.owes, on...)
	}
	if !x.touched[key] {
		x.seen = append(x.seen, found)
	}
}

// pays makes the bonds of the last read.
func (w *world) pays(x *txn) {
	for _, to := range x.owes {
		switch w.bonds.State(to) {
		case api.BGood:
			w.c.lateGood++
		case api.BBad:
			w.c.lateBad++
		case api.BDoomed, api.BOpen:
			if w.bonds.Waits(to) > 0 {
				w.c.chains++
			}
		}
		if e := w.bonds.Bind(x.id, to); e != api.OK {
			w.t.Errorf("Bind(%d, %d) = %d", x.id, to, e)
		}
		w.c.bonds++
		x.bound = append(x.bound, to)
	}
	x.owes = nil
}

// isTime tells whether a word is a time up to another one.
func isTime(n, upTo uint64) bool { return word.Read(n).Kind == api.WTime && n <= upTo }

// writes is false if somebody else was first.
func (w *world) writes(x *txn, a act) bool {
	me, ever := x.word(), word.Forever()
	own := false
	if len(w.keys[a.key]) > 0 {
		v := w.keys[a.key][0]
		own = v.begin == me
		if !own && !isTime(v.begin, x.begin) || v.end != ever && v.end != me && !isTime(v.end, x.begin) {
			return false
		}
		if v.end == ever || own {
			v.end = me
			x.touched[a.key], x.wrote[a.key] = true, -1
		}
	}
	if a.kind == api.ODelete {
		return true
	}
	w.last++
	x.touched[a.key], x.wrote[a.key] = true, w.last
	if own {
		*w.keys[a.key][0] = version{w.last, me, ever}
	} else {
		w.keys[a.key] = slices.Insert(w.keys[a.key], 0, &version{w.last, me, ever})
	}
	return true
}

// prepares draws the end time: whatever a transaction has a bond to has a smaller one.
func (w *world) prepares(x *txn) {
	w.clock++
	x.end = w.clock
	w.table.Turn(x.id, api.SPrep)
	w.table.End(x.id, x.end)
	for _, to := range x.bound {
		if y := w.txns[to-1]; y.end == 0 || y.end >= x.begin {
			w.t.Errorf("%d, which began at %d, has a bond to %d with the end time %d", x.id, x.begin, to, y.end)
		}
	}
}

// commits ends a transaction well if Bonds let it, badly if it is doomed, and else leaves it waiting.
func (w *world) commits(x *txn) {
	waits := slices.ContainsFunc(x.bound, func(to int) bool { return !w.txns[to-1].good })
	_, e := w.bonds.Good(x.id)
	switch e {
	case api.OK:
		w.c.good++
		x.ended, x.good = true, true
		w.table.Turn(x.id, api.SCommitted)
		for key, value := range x.wrote {
			if x.touched[key] {
				w.left = append(w.left, left{x.end, key, value})
			}
		}
		w.holds(x)
	case api.ErrWait:
		w.c.waits++
		if !waits {
			w.t.Errorf("%d waits for nothing", x.id)
		}
	case api.ErrState:
		w.c.cascade++
		w.aborts(x)
	default:
		w.t.Errorf("Good(%d) = %d", x.id, e)
	}
}

// holds holds of a transaction that has committed that all that it has bonds to had committed, and that it found what those left that had ended by its begin.
func (w *world) holds(x *txn) {
	for _, to := range x.bound {
		if !w.txns[to-1].good {
			w.t.Errorf("%d has committed, and not %d", x.id, to)
		}
	}
	for _, s := range x.seen {
		was := left{0, s.key, -1}
		for _, l := range w.left {
			if l.key == s.key && l.end > was.end && l.end <= x.begin {
				was = l
			}
		}
		if s.value != was.value {
			w.t.Errorf("%d found %d in key %d, and there was %d", x.id, s.value, s.key, was.value)
		}
	}
}

// aborts ends a transaction badly, and takes its versions back: all that have a bond to it and have not ended are doomed.
func (w *world) aborts(x *txn) {
	doomed := w.bonds.State(x.id) == api.BDoomed
	if doomed != slices.ContainsFunc(x.bound, func(to int) bool { return w.lost(to) }) {
		w.t.Errorf("%d has bonds to %v and is doomed: %v", x.id, x.bound, doomed)
	}
	if _, e := w.bonds.Bad(x.id); e != api.OK {
		w.t.Errorf("Bad(%d) = %d", x.id, e)
	}
	w.table.Turn(x.id, api.SAborted)
	x.ended, x.settled, x.owes = true, true, nil
	w.back(x)
	for _, y := range w.txns {
		if s := w.bonds.State(y.id); slices.Contains(y.bound, x.id) && s != api.BDoomed && s != api.BBad {
			w.t.Errorf("%d has a bond to %d, which was aborted, and is %d", y.id, x.id, s)
		}
	}
}

// lost tells whether a transaction has ended badly, or has a bond to one that is lost.
func (w *world) lost(id int) bool {
	x := w.txns[id-1]
	return x.ended && !x.good || slices.ContainsFunc(x.bound, w.lost)
}

// back takes the versions of a transaction back.
func (w *world) back(x *txn) {
	for key := range w.keys {
		w.keys[key] = slices.DeleteFunc(w.keys[key], func(v *version) bool { return v.begin == x.word() })
		for _, v := range w.keys[key] {
			if v.end == x.word() {
				v.end = word.Forever()
			}
		}
	}
}

// settles replaces the words of a transaction that has committed by its end time.
func (w *world) settles(x *txn) {
	for _, l := range w.keys {
		for _, v := range l {
			if v.begin == x.word() {
				v.begin = x.end
			}
			if v.end == x.word() {
				v.end = x.end
			}
		}
	}
	w.table.Turn(x.id, api.SDone)
	x.settled = true
}

// run has transactions make the steps that next picks until all have ended, which they do if each one gets a step again and again.
func (w *world) run(txns []*txn, next func(open []*txn) *txn) {
	w.t.Helper()
	steps := 0
	for {
		var open []*txn
		for _, x := range txns {
			if !x.settled {
				open = append(open, x)
			}
		}
		if len(open) == 0 {
			break
		}
		if steps++; steps > 5000 {
			w.t.Fatalf("%d transactions do not end", len(open))
		}
		w.step(next(open))
	}
	for _, x := range txns {
		if x.good {
			w.holds(x)
		} else if !w.lost(x.id) || w.bonds.State(x.id) != api.BBad {
			w.t.Errorf("%d has not ended badly", x.id)
		}
	}
}

// tell holds that the runs tell something.
func (c *counts) tell(t *testing.T) {
	t.Helper()
	if min(c.good, c.quit, c.first, c.cascade, c.bonds, c.waits, c.lateGood, c.lateBad, c.chains) < 200 {
		t.Errorf("the runs tell little: %+v", *c)
	}
}

// txn draws a transaction, which sometimes aborts ahead of one of its calls or of the parts of its commit.
func (d *draws) txn() *txn {
	x := &txn{quits: -1, hasty: d.draw(2) == 0}
	for range 1 + d.draw(4) {
		kinds := []int{api.OGet, api.OGet, api.OUpdate, api.ODelete}
		x.acts = append(x.acts, act{kinds[d.draw(len(kinds))], d.draw(few)})
	}
	if d.draw(5) == 0 {
		x.quits = min(d.draw(len(x.acts)+4), len(x.acts)+1)
	}
	return x
}

// pick draws who of the first eight makes the next step, and mostly passes over one that has an end time, so that others begin and read what it has written.
func (d *draws) pick(open []*txn) *txn {
	open = open[:min(8, len(open))]
	x := open[d.draw(len(open))]
	for range 5 {
		if x.end != 0 {
			x = open[d.draw(len(open))]
		}
	}
	return x
}

// W5, W6: many transactions in drawn orders, up to eight of them at a time.
func TestDrawnOrders(t *testing.T) {
	d := draws(5)
	var c counts
	for round := range 12000 {
		w := inWorld(t, &c)
		l := make([]*txn, 2+d.draw(40))
		for i := range l {
			l[i] = d.txn()
		}
		w.run(l, d.pick)
		if t.Failed() {
			t.Fatalf("round %d", round)
		}
	}
	c.tell(t)
}

// orders are all orders of n steps of each of some.
func orders(left []int) [][]int {
	var all [][]int
	done := true
	for i, n := range left {
		if n == 0 {
			continue
		}
		done = false
		less := slices.Clone(left)
		less[i]--
		for _, rest := range orders(less) {
			all = append(all, append([]int{i}, rest...))
		}
	}
	if done {
		return [][]int{nil}
	}
	return all
}

// W5: three transactions in every order of their steps: one that has written a key, or deleted it, has its end time, and commits or aborts; the next one reads the key and writes another one, which the third one reads.
func TestEveryOrderOfThree(t *testing.T) {
	var c counts
	for _, order := range orders([]int{2, 6, 5}) {
		for way := range 8 {
			one := &txn{quits: -1, acts: []act{{[]int{api.OUpdate, api.ODelete}[way%2], 0}}}
			if way/2%2 == 1 {
				one.quits = 2
			}
			l := []*txn{
				one,
				{quits: -1, hasty: way >= 4, acts: []act{{api.OGet, 0}, {api.OUpdate, 1}}},
				{quits: -1, acts: []act{{api.OGet, 1}}},
			}
			w := inWorld(t, &c)
			w.run([]*txn{{quits: -1, acts: []act{{api.OUpdate, 0}}}}, func(open []*txn) *txn { return open[0] })
			for one.end == 0 {
				w.step(one)
			}
			made := 0
			w.run(l, func(open []*txn) *txn {
				made++
				if made <= len(order) && !l[order[made-1]].settled {
					return l[order[made-1]]
				}
				return open[made%len(open)]
			})
			if t.Failed() {
				t.Fatalf("way %d in the order %v", way, order)
			}
		}
	}
	c.first = c.good
	c.tell(t)
}

// W5 by hand: a reader of a version whose maker is in SPrep, and one of a version that it has ended, commit only after it, and are aborted if it is.
func TestReadersOfOne(t *testing.T) {
	for _, well := range []bool{true, false} {
		b := New()
		for _, id := range upTo(4) {
			b.Open(id)
		}
		b.Bind(2, 1)
		b.Bind(3, 1)
		b.Bind(4, 3)
		for id := 2; id <= 4; id++ {
			if _, e := b.Good(id); e != api.ErrWait {
				t.Errorf("Good(%d) = %d", id, e)
			}
		}
		want := api.ErrState
		if well {
			want = api.OK
			b.Good(1)
		} else {
			b.Bad(1)
		}
		for id := 2; id <= 4; id++ {
			if _, e := b.Good(id); e != want {
				t.Errorf("well is %v: Good(%d) = %d", well, id, e)
			}
		}
	}
}

// tie is a bond that Bind has made or has found done.
type tie struct{ id, to int }

// endless tells whether the ids wait for one another in a ring, by what For tells: whoever waits for none is taken out, until none is left or each one waits for another.
func endless(b *Bonds, n int) bool {
	rest := upTo(n)
	for {
		less := slices.DeleteFunc(slices.Clone(rest), func(id int) bool {
			return !slices.ContainsFunc(b.For(id), func(to int) bool { return slices.Contains(rest, to) })
		})
		if len(less) == len(rest) {
			return len(rest) > 0
		}
		rest = less
	}
}

// Promise 16.3: whatever is called, an id ends well only after all that it had to wait for, never if one of them has ended badly, and no ids wait in a ring.
func TestWhatItIsFor(t *testing.T) {
	d := draws(9)
	var ends [2]int
	for round := range 2000 {
		n := 3 + d.draw(8)
		b := New()
		for _, id := range upTo(n) {
			b.Open(id)
		}
		var ties []tie
		for range 12 * n {
			id, to := d.draw(n)+1, d.draw(n)+1
			switch d.draw(8) {
			case 0:
				if _, e := b.Good(id); e != api.OK {
					break
				}
				ends[0]++
				for _, x := range ties {
					if x.id == id && b.State(x.to) != api.BGood {
						t.Errorf("%d has ended well ahead of %d, which is %d", id, x.to, b.State(x.to))
					}
				}
			case 1:
				if d.draw(2) == 0 {
					break
				}
				if _, e := b.Bad(id); e == api.OK {
					ends[1]++
				}
			default:
				if e := b.Bind(id, to); e == api.OK {
					ties = append(ties, tie{id, to})
				}
				if endless(b, n) {
					t.Errorf("a ring by Bind(%d, %d)", id, to)
				}
			}
		}
		for _, x := range ties {
			if b.State(x.to) == api.BBad && b.State(x.id) != api.BDoomed && b.State(x.id) != api.BBad {
				t.Errorf("%d is %d, and %d has ended badly", x.id, b.State(x.id), x.to)
			}
		}
		if t.Failed() {
			t.Fatalf("round %d", round)
		}
	}
	if ends[0] < 500 || ends[1] < 500 {
		t.Errorf("the runs tell little: %v", ends)
	}
}

// Promise 16.3, W6: whatever bonds there are, all ids end if each one is asked again and again: well, or badly if it is doomed.
func TestAllEnd(t *testing.T) {
	d := draws(11)
	for round := range 1000 {
		n := 2 + d.draw(30)
		b := New()
		for _, id := range upTo(n) {
			b.Open(id)
		}
		for range d.draw(4 * n) {
			b.Bind(d.draw(n)+1, d.draw(n)+1)
		}
		if round%2 == 0 {
			b.Bad(d.draw(n) + 1)
		}
		for range n {
			for _, id := range upTo(n) {
				if _, e := b.Good(id); e == api.ErrState {
					b.Bad(id)
				}
			}
		}
		for _, id := range upTo(n) {
			if s := b.State(id); s != api.BGood && s != api.BBad {
				t.Fatalf("round %d: %d is %d", round, id, s)
			}
		}
	}
}
