package model

import (
	"maps"
	"slices"
	"testing"

	"vinculum/api"
)

// The tests of this file hold of what a Model has answered that the levels keep what they guarantee: by values alone, and by the times that the Model tells.

// diary keeps what the transactions of a Model were told.
type diary struct {
	m     *Model
	open  [8]*api.Deal
	deals []*api.Deal
}

func (y *diary) begin(s, level int) bool {
	id, e := y.m.Begin(s, level)
	if e != 0 {
		return false
	}
	x := &api.Deal{ID: id, Level: level, State: api.SActive, Begin: y.m.Status(s).Begin}
	y.open[s] = x
	y.deals = append(y.deals, x)
	return true
}

func (y *diary) do(s int, o api.Op) (api.Result, api.Errno) {
	r, e := y.m.Do(s, o)
	if e != 0 {
		return r, e
	}
	x := y.open[s]
	x.Ops = append(x.Ops, api.Call{Op: o, Result: r})
	if r.Over != 0 {
		x.State = r.Over
		y.open[s] = nil
	}
	if r.Over == api.SCommitted {
		x.End = y.m.Now()
	}
	return r, e
}

// world is the values of the keys that are there.
type world map[int]int

func (w world) apply(c api.Call) {
	switch {
	case c.Result.E != 0:
	case c.Op.Kind == api.ODelete:
		delete(w, c.Op.Key)
	case c.Op.Kind == api.OInsert, c.Op.Kind == api.OUpdate:
		w[c.Op.Key] = c.Op.Value
	}
}

// history tells the world at each time.
func (y *diary) history() []world {
	l := make([]world, y.m.Now()+1)
	l[0] = world{}
	for at := range l {
		if at > 0 {
			l[at] = l[at-1]
		}
		for _, x := range y.deals {
			if x.State == api.SCommitted && x.End == uint64(at) {
				l[at] = maps.Clone(l[at])
				for _, c := range x.Ops {
					l[at].apply(c)
				}
			}
		}
	}
	return l
}

// agrees reports whether an answer is what a world lets it be.
func (w world) agrees(c api.Call) bool {
	v, there := w[c.Op.Key]
	switch c.Op.Kind {
	case api.OGet:
		return there && c.Result.E == api.OK && c.Result.Value == v || !there && c.Result.E == api.ErrNone
	case api.OInsert:
		return there == (c.Result.E == api.ErrExists)
	case api.OUpdate, api.ODelete:
		return there == (c.Result.E != api.ErrNone)
	case api.OScan:
		var l []api.Pair
		for _, k := range slices.Sorted(maps.Keys(w)) {
			if k >= c.Op.Key && k <= c.Op.Hi {
				l = append(l, api.Pair{Key: k, Value: w[k]})
			}
		}
		return slices.Equal(l, c.Result.Pairs)
	}
	return true
}

// tells reports whether all answers of a transaction, or its successful gets alone, are what it would be told in a world and by its own writes.
func (w world) tells(x *api.Deal, gets bool) bool {
	mine := maps.Clone(w)
	for _, c := range x.Ops {
		if (!gets || c.Op.Kind == api.OGet && c.Result.E == api.OK) && !mine.agrees(c) {
			return false
		}
		mine.apply(c)
	}
	return true
}

// seen counts of the transactions that committed how many have been told what was not so any more at their end.
type seen struct{ good, old int }

// W3: what each transaction was told was so at its begin, and at the end of one that has committed as far as its level asks for that.
func (y *diary) holds(t *testing.T, n *seen) {
	t.Helper()
	h := y.history()
	for _, x := range y.deals {
		if !h[x.Begin].tells(x, false) {
			t.Errorf("%v was not so at its begin", *x)
		}
		if x.State != api.SCommitted {
			continue
		}
		n.good++
		end := h[x.End-1]
		if x.Level == api.LSerial && !end.tells(x, false) || x.Level == api.LRepeat && !end.tells(x, true) {
			t.Errorf("%v was not so any more at its end", *x)
		}
		if !end.tells(x, false) {
			n.old++
		}
	}
	y.apart(t)
}

func keysOf(x *api.Deal) map[int]int {
	l := map[int]int{}
	for _, c := range x.Ops {
		if c.Op.Kind >= api.OInsert && c.Op.Kind <= api.ODelete && c.Result.E == api.OK {
			l[c.Op.Key]++
		}
	}
	return l
}

// W4: no two that have committed and wrote a key overlap.
func (y *diary) apart(t *testing.T) {
	t.Helper()
	last := map[int]*api.Deal{}
	done := slices.Clone(y.deals)
	done = slices.DeleteFunc(done, func(x *api.Deal) bool { return x.State != api.SCommitted })
	slices.SortFunc(done, func(a, b *api.Deal) int { return int(a.End) - int(b.End) })
	for _, x := range done {
		for k := range keysOf(x) {
			if before := last[k]; before != nil && before.End > x.Begin {
				t.Errorf("%v and %v have both written key %d", *before, *x, k)
			}
			last[k] = x
		}
	}
}

// W3, W4: drawn runs, in which few values make many keys look the same, and many values none.
func TestGuarantees(t *testing.T) {
	d := draws(4)
	var n seen
	for round := range 1500 {
		keys, values := []int{2, 5, 64}[round%3], []int{2, 60000}[round%2]
		m, _ := New(api.Conf{Slots: 20 + d.below(200), Limit: 1 << 40})
		y := &diary{m: m}
		for range 150 {
			a := drawn(&d, m, keys, 6)
			switch {
			case a.s < 0:
				m.Collect()
			case a.level > 0:
				y.begin(a.s, a.level)
			default:
				if a.o.Kind == api.OInsert || a.o.Kind == api.OUpdate {
					a.o.Value = d.below(values)
				}
				y.do(a.s, a.o)
			}
		}
		y.holds(t, &n)
		if t.Failed() {
			t.Fatalf("round %d", round)
		}
	}
	if n.good < 5000 || n.old < 300 {
		t.Errorf("the runs tell little: %+v", n)
	}
}

// W3, W4, promise 19.1: as many transactions as there can be, in all sessions.
func TestAllTransactions(t *testing.T) {
	d := draws(5)
	m, _ := New(api.Conf{Slots: 256, Limit: 1 << 40})
	y := &diary{m: m}
	var n seen
	for calls := 0; len(y.deals) < 2000 && calls < 100000; calls++ {
		a := drawn(&d, m, 64, 8)
		if a.level > 0 {
			y.begin(a.s, a.level)
		} else if a.s >= 0 {
			y.do(a.s, a.o)
		}
		if m.Used() > 220 {
			m.Collect()
		}
	}
	for s := range 8 {
		y.do(s, commit())
		refused(t, m, s, 1, 65)
	}
	y.holds(t, &n)
	if len(y.deals) != 2000 || n.good < 500 {
		t.Errorf("%d of %d have committed", n.good, len(y.deals))
	}
}

// W7: who collects is answered what who doesn't is, as long as there are slots; and in the end a slot is used for each key.
func TestCollectIsInvisible(t *testing.T) {
	d := draws(6)
	collected := 0
	for round := range 400 {
		keys := []int{1, 3, 20}[round%3]
		c := api.Conf{Slots: 256, Limit: 1 << 40}
		often, _ := New(c)
		never, _ := New(c)
		for range 1500 {
			if never.Used() > 250 {
				break
			}
			a := drawn(&d, often, keys, 8)
			if a.s < 0 || d.below(3) == 0 {
				collected += often.Collect()
				continue
			}
			r, e, id := a.on(often)
			want, we, wid := a.on(never)
			if r.Reason == api.RFull || !sameResult(r, want) || e != we || id != wid {
				t.Fatalf("%v is %v, %d, %d where versions are collected, and else %v, %d, %d", a, r, e, id, want, we, wid)
			}
			now := often.Now()
			if l := often.Pairs(now); !slices.Equal(l, never.Pairs(now)) || never.Now() != now || often.Used() > never.Used() {
				t.Fatalf("%v is there after %v", l, a)
			}
		}
		for s := range 8 {
			often.Do(s, abort())
		}
		often.Collect()
		if n := len(often.Pairs(often.Now())); often.Used() != n {
			t.Errorf("%d slots are used for %d keys", often.Used(), n)
		}
	}
	if collected < 10000 {
		t.Errorf("%d versions were collected", collected)
	}
}

// W6: one that is alone commits, and so does one of whose keys and ranges nobody else writes any.
func TestAloneCommits(t *testing.T) {
	d := draws(7)
	for range 300 {
		m, _ := New(api.Conf{Slots: 256, Limit: 1 << 40})
		y := &diary{m: m}
		for range 30 {
			m.Collect()
			for s := range 8 {
				y.begin(s, 1+d.below(3))
			}
			for range 60 {
				a := drawn(&d, m, 8, 8)
				a.o.Key += 8 * a.s
				if a.o.Kind == api.OScan {
					a.o.Hi += 8 * a.s
				}
				if a.s >= 0 && a.o.Kind >= 1 && a.o.Kind <= 5 {
					y.do(a.s, a.o)
				}
			}
			for s := range 8 {
				if r, e := y.do((s+3)%8, commit()); e != 0 || r.Over != api.SCommitted {
					t.Fatalf("a commit is %v, %d", r, e)
				}
			}
		}
		var n seen
		y.holds(t, &n)
	}
}
