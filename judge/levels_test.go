package judge

import (
	"fmt"
	"slices"
	"testing"

	"vinculum/api"
	"vinculum/reads"
)

// The tests of this file hold W3: transactions that read and write in steps, in many orders, and that commit only if judge lets their reads pass. What each one that committed has told is then held against the guarantee of its level in the words of chapter 21, by values alone, of which judge sees none.

// few is how many keys the transactions have.
const few = 3

// item is what a key has: a value and a link that no other version has, or a link of 0 and nothing.
type item struct {
	link  uint64
	value int
}

// state is the versions of all keys at a moment.
type state [few]item

func (s *state) now(key int) uint64 { return s[key].link }

func (s *state) span(lo, hi int) []uint64 {
	var l []uint64
	for _, v := range s[lo : hi+1] {
		if v.link != 0 {
			l = append(l, v.link)
		}
	}
	return l
}

// view is what a transaction finds in keys: values, or -1 where there is none.
type view [few]int

func (s *state) view() view {
	var v view
	for n := range v {
		v[n] = -1
		if s[n].link != 0 {
			v[n] = s[n].value
		}
	}
	return v
}

// act is a call of a transaction. What it writes hangs on all that was read before it, so that a read that went wrong goes on in what is written.
type act struct{ kind, key, hi int }

// said is what a call answered: the value of a key, or the values of a range.
type said [few]int

// do makes one call in a view, which own writes change, and adds to what was read so far.
func (a act) do(v *view, sum *int) said {
	var s said
	switch a.kind {
	case api.OGet, api.OScan:
		for n := a.key; n <= a.hi; n++ {
			s[n] = v[n]
			*sum = *sum*3 + v[n] + 2
		}
	case api.OUpdate:
		v[a.key] = *sum % 1000
	case api.ODelete:
		v[a.key] = -1
	}
	return s
}

// txn is a transaction under way or at its end.
type txn struct {
	level   int
	acts    []act
	begun   bool
	at      int
	base    state
	view    view
	sum     int
	wrote   [few]bool
	set     *reads.Set
	told    []said
	ended   bool
	good    bool
	invalid bool
}

// step begins a transaction, makes its next call, or commits it.
func (x *txn) step(w *state, last *uint64) {
	if !x.begun {
		x.begun, x.base, x.view, x.set = true, *w, w.view(), reads.New()
	}
	if x.at == len(x.acts) {
		x.commit(w, last)
		return
	}
	a := x.acts[x.at]
	x.at++
	switch a.kind {
	case api.OGet:
		if !x.wrote[a.key] {
			x.set.Add(a.key, x.base[a.key].link)
		}
	case api.OScan:
		x.set.Span(a.key, a.hi, x.base.span(a.key, a.hi))
	default:
		x.wrote[a.key] = true
	}
	x.told = append(x.told, a.do(&x.view, &x.sum))
}

// commit writes what the transaction wrote, if it was the first writer of all of it and its reads still hold.
func (x *txn) commit(w *state, last *uint64) {
	x.ended = true
	for n, wrote := range x.wrote {
		if wrote && w[n].link != x.base[n].link {
			return
		}
	}
	if ok, _ := All(x.level, x.set, w.now, w.span); !ok {
		x.invalid = true
		return
	}
	x.good = true
	for n, wrote := range x.wrote {
		if !wrote {
			continue
		}
		w[n] = item{}
		if x.view[n] >= 0 {
			*last++
			w[n] = item{*last, x.view[n]}
		}
	}
}

// serially tells whether all calls of a transaction told what they tell where it runs alone in a view, and makes its writes there.
func (x *txn) serially(v *view) bool {
	sum := 0
	for i, a := range x.acts {
		if a.do(v, &sum) != x.told[i] {
			return false
		}
	}
	return true
}

// repeatably tells whether each key that was read ahead of a write of it, and was there, has the same value in a view.
func (x *txn) repeatably(v view) bool {
	var wrote [few]bool
	for i, a := range x.acts {
		switch a.kind {
		case api.OGet:
			if was := x.told[i][a.key]; !wrote[a.key] && was >= 0 && was != v[a.key] {
				return false
			}
		case api.OUpdate, api.ODelete:
			wrote[a.key] = true
		}
	}
	return true
}

// changed tells whether anything that a transaction read, alone or in a range, is another version at its end.
func (x *txn) changed(w *state) bool {
	for _, a := range x.acts[:x.at] {
		for n := a.key; n <= a.hi; n++ {
			if x.base[n].link != w[n].link {
				return true
			}
		}
	}
	return false
}

// counts is what the runs came to: by level how many committed, how many were held back by judge, and how many that committed did not run as one after the other would.
type counts struct{ good, invalid, astray [4]int }

// holds makes one step, and, if it ended the transaction, holds what came of it: the guarantee of its level if it committed, and that its reads had changed if judge held it back.
func (x *txn) holds(t *testing.T, w *state, last *uint64, c *counts) {
	t.Helper()
	before := *w
	x.step(w, last)
	if x.invalid {
		c.invalid[x.level]++
		if !x.changed(&before) || x.level == snap {
			t.Errorf("level %d: held back, and nothing had changed: %v", x.level, x.acts)
		}
	}
	if !x.good {
		return
	}
	c.good[x.level]++
	now, base := before.view(), x.base.view()
	if x.level == repeat && !x.repeatably(now) {
		t.Errorf("level %d: %v told %v, and then there was %v", x.level, x.acts, x.told, now)
	}
	alone := x.serially(&now)
	if !alone {
		c.astray[x.level]++
	}
	if x.level == serial && (!alone || now != w.view()) {
		t.Errorf("level %d: %v told %v, and then there was %v", x.level, x.acts, x.told, before.view())
	}
	if !x.serially(&base) {
		t.Errorf("level %d: %v told %v, which its begin does not: %v", x.level, x.acts, x.told, x.base.view())
	}
}

// oneByOne holds that what the transactions made of a beginning is what they make one after the other, in the order of their ends.
func oneByOne(t *testing.T, begin view, ends []*txn, w *state) {
	t.Helper()
	for _, x := range ends {
		if !x.serially(&begin) {
			t.Errorf("%v told %v, which it does not after the ones ahead of it", x.acts, x.told)
		}
	}
	if begin != w.view() {
		t.Errorf("one after the other they make %v, and not %v", begin, w.view())
	}
}

// run has transactions make the steps that next picks until all have ended.
func run(t *testing.T, w state, txns []*txn, next func(open []*txn) *txn, c *counts) {
	t.Helper()
	begin, last := w.view(), uint64(100)
	var ends []*txn
	allSerial := true
	for {
		var open []*txn
		for _, x := range txns {
			if !x.ended {
				open = append(open, x)
			}
		}
		if len(open) == 0 {
			break
		}
		x := next(open)
		x.holds(t, &w, &last, c)
		if x.good {
			ends = append(ends, x)
			allSerial = allSerial && x.level == serial
		}
	}
	if allSerial {
		oneByOne(t, begin, ends, &w)
	}
}

// someStates have none of the keys, some and all.
func someStates() []state {
	return []state{{}, {1: {5, 50}}, {{4, 40}, {5, 50}, {6, 60}}}
}

// orders are all orders of the steps of two transactions, of which each one makes n.
func orders(n int) [][]int {
	var l [][]int
	for bits := range 1 << (2 * n) {
		var o []int
		var made [2]int
		for i := range 2 * n {
			who := bits >> i & 1
			made[who]++
			o = append(o, who)
		}
		if made[0] == n {
			l = append(l, o)
		}
	}
	return l
}

// Promise 15.1, W3: two transactions of two calls each, all calls of two keys, all levels, all orders of the steps, from three beginnings.
func TestEveryOrderOfTwo(t *testing.T) {
	all := []act{
		{api.OGet, 0, 0}, {api.OGet, 1, 1}, {api.OScan, 0, 1}, {api.OScan, 1, 2},
		{api.OUpdate, 0, 0}, {api.OUpdate, 1, 1}, {api.ODelete, 1, 1},
	}
	var scripts [][]act
	for _, a := range all {
		for _, b := range all {
			scripts = append(scripts, []act{a, b})
		}
	}
	var c counts
	for _, order := range orders(3) {
		for i := range len(scripts) * len(scripts) {
			for pair := range 9 {
				l := []*txn{{level: 1 + pair%3, acts: scripts[i%len(scripts)]}, {level: 1 + pair/3, acts: scripts[i/len(scripts)]}}
				made := 0
				next := func([]*txn) *txn {
					made++
					return l[order[made-1]]
				}
				run(t, someStates()[i%3], l, next, &c)
			}
			if t.Failed() {
				t.Fatalf("scripts %d in the order %v", i, order)
			}
		}
	}
	c.tell(t)
}

// tell holds that the runs tell something: that transactions committed at all levels, that judge held some back, and that some would have gone astray at the stronger levels.
func (c *counts) tell(t *testing.T) {
	t.Helper()
	enough := func(n int) bool { return n >= 500 }
	for _, level := range levels() {
		if !enough(c.good[level]) || enough(c.invalid[level]) != (level != snap) || enough(c.astray[level]) != (level != serial) {
			t.Errorf("the runs tell little: %s", fmt.Sprint(*c))
		}
	}
}

// act draws a call.
func (d *draws) act() act {
	key := d.draw(few)
	switch d.draw(5) {
	case 0, 1:
		return act{api.OGet, key, key}
	case 2:
		return act{api.OScan, key, key + d.draw(few-key)}
	case 3:
		return act{api.OUpdate, key, key}
	}
	return act{api.ODelete, key, key}
}

// Promise 15.1, W3: up to six transactions of up to six calls in drawn orders, of all levels, or of LSerial alone, which then make what they make one after the other.
func TestDrawnOrders(t *testing.T) {
	d := draws(3)
	var c counts
	for round := range 60000 {
		l := make([]*txn, 2+d.draw(5))
		for i := range l {
			l[i] = &txn{level: 1 + d.draw(3)}
			if round%2 == 0 {
				l[i].level = serial
			}
			for range 1 + d.draw(6) {
				l[i].acts = append(l[i].acts, d.act())
			}
		}
		run(t, someStates()[d.draw(3)], l, func(open []*txn) *txn { return open[d.draw(len(open))] }, &c)
		if t.Failed() {
			t.Fatalf("round %d", round)
		}
	}
	c.tell(t)
}

// W3: a transaction whose keys and ranges nobody else writes passes at every level, whatever else is written.
func TestOthersElsewhere(t *testing.T) {
	for _, level := range levels() {
		for _, begin := range someStates() {
			x := &txn{level: level, acts: []act{{api.OGet, 0, 0}, {api.OScan, 0, 1}, {api.OUpdate, 1, 1}, {api.OGet, 1, 1}}}
			y := &txn{level: serial, acts: []act{{api.OGet, 2, 2}, {api.OUpdate, 2, 2}}}
			order := []*txn{x, x, y, x, y, y, x, x}
			var c counts
			made := 0
			run(t, begin, []*txn{x, y}, func([]*txn) *txn {
				made++
				return order[made-1]
			}, &c)
			if !x.good || !y.good {
				t.Error(level, x.good, y.good)
			}
		}
	}
}

// W3: the classic ways to go astray, and the weakest level that keeps each one out.
func TestWaysAstray(t *testing.T) {
	get := func(n int) act { return act{api.OGet, n, n} }
	put := func(n int) act { return act{api.OUpdate, n, n} }
	whole, empty := someStates()[2], state{}
	for _, c := range []struct {
		name   string
		begin  state
		first  []act
		second []act
		order  []int
		least  int
	}{
		{"what was read is written", whole, []act{get(0), put(1)}, []act{put(0)}, []int{0, 1, 1, 0, 0}, repeat},
		{"each writes what the other read", whole, []act{get(0), put(1)}, []act{get(1), put(0)}, []int{0, 1, 0, 1, 1, 0}, repeat},
		{"a key appears", empty, []act{get(0), put(1)}, []act{put(0)}, []int{0, 1, 1, 0, 0}, serial},
		{"a range gets a key", empty, []act{{api.OScan, 0, 2}, put(1)}, []act{put(0)}, []int{0, 1, 1, 0, 0}, serial},
		{"a range loses a key", whole, []act{{api.OScan, 0, 2}, put(1)}, []act{{api.ODelete, 0, 0}}, []int{0, 1, 1, 0, 0}, serial},
		{"a range has another value", whole, []act{{api.OScan, 0, 2}, put(1)}, []act{put(0)}, []int{0, 1, 1, 0, 0}, serial},
	} {
		for _, level := range levels() {
			l := []*txn{{level: level, acts: c.first}, {level: snap, acts: c.second}}
			var n counts
			made := 0
			run(t, c.begin, l, func([]*txn) *txn {
				made++
				return l[c.order[made-1]]
			}, &n)
			if l[0].good != (level < c.least) || l[0].invalid != (level >= c.least) || !l[1].good {
				t.Errorf("%s: level %d: %v, %v", c.name, level, l[0].good, l[1].good)
			}
		}
	}
}

// The orders that the tests go through are all there are, each once.
func TestOrders(t *testing.T) {
	l := orders(3)
	if len(l) != 20 {
		t.Error(len(l))
	}
	for i, o := range l {
		if slices.ContainsFunc(l[:i], func(p []int) bool { return slices.Equal(o, p) }) {
			t.Error(o)
		}
	}
}
