package model

import (
	"math"
	"slices"
	"testing"

	"vinculum/api"
)

// clone makes a plain Model that goes its own way from here.
func (p *plain) clone() *plain {
	q := &plain{conf: p.conf, clock: p.clock, gone: map[thing]bool{}}
	for _, d := range p.deals {
		c := *d
		c.calls = slices.Clone(d.calls)
		q.deals = append(q.deals, &c)
	}
	for x := range p.gone {
		q.gone[x] = true
	}
	return q
}

// caller is what takes calls: a Model, or a plain one.
type caller interface {
	Begin(s, level int) (int, api.Errno)
	Do(s int, o api.Op) (api.Result, api.Errno)
	Collect() int
}

// act is a call: a begin if level is above 0, a collection if s is below 0, or else an operation.
type act struct {
	s, level int
	o        api.Op
}

// on makes the call, and tells its result, its error and its number.
func (a act) on(m caller) (api.Result, api.Errno, int) {
	switch {
	case a.s < 0:
		return api.Result{}, 0, m.Collect()
	case a.level > 0:
		id, e := m.Begin(a.s, a.level)
		return api.Result{}, e, id
	}
	r, e := m.Do(a.s, a.o)
	return r, e, 0
}

// extends makes each sequence of calls that continues one, as far as they are no errors, and holds its last call and what that has left.
func extends(t *testing.T, acts, made []act, p *plain, more int) int {
	n := 1
	for _, a := range acts {
		m, _ := New(p.conf)
		for _, b := range made {
			b.on(m)
		}
		q := p.clone()
		r, e, id := a.on(m)
		want, we, wid := a.on(q)
		if !sameResult(r, want) || e != we || id != wid {
			t.Fatalf("after %v %v is %v, %d, %d, want %v, %d, %d", made, a, r, e, id, want, we, wid)
		}
		x := both{t, m, q}
		x.same()
		x.exists(q.clock-1, q.clock)
		if t.Failed() {
			t.Fatalf("after %v %v", made, a)
		}
		if e == 0 && more > 1 {
			n += extends(t, acts, append(slices.Clip(made), a), q, more-1)
		}
	}
	return n
}

// Promises 19.3 to 19.5: every sequence of calls of two transactions on a key that is there and one that is not, at all levels.
func TestEverySequence(t *testing.T) {
	for n := range 9 {
		t.Run("", func(t *testing.T) {
			t.Parallel()
			a, b := 1+n/3, 1+n%3
			acts := []act{{s: -1}, {s: 1, level: b}}
			for s := range 2 {
				for _, o := range []api.Op{get(5), insert(5, 2+s), update(5, 2+s), remove(5), scan(5, 6), insert(6, 2+s), commit(), abort()} {
					acts = append(acts, act{s: s, o: o})
				}
			}
			p := &plain{conf: api.Conf{Slots: 2 + n%2, Limit: 6}, gone: map[thing]bool{}}
			made := []act{{s: 0, level: 1}, {s: 0, o: insert(5, 1)}, {s: 0, o: commit()}, {s: 0, level: a}, {s: 1, level: b}}
			for _, x := range made {
				x.on(p)
			}
			if n := extends(t, acts, made, p, 4); n < 1000 {
				t.Errorf("%d sequences", n)
			}
		})
	}
}

// drawn draws a call that is mostly no error.
func drawn(d *draws, m *Model, keys, sessions int) act {
	s, k, v := d.below(sessions), d.below(keys), d.below(4)
	if !m.Status(s).Live && d.below(10) > 0 {
		return act{s: s, level: 1 + d.below(3)}
	}
	switch d.below(32) {
	case 0:
		return act{s: s, level: 1 + d.below(3)}
	case 1:
		return act{s: -1}
	case 2:
		return act{s: s, o: abort()}
	case 3, 4, 5, 6:
		return act{s: s, o: commit()}
	case 7, 8, 9:
		return act{s: s, o: scan(k, k+d.below(keys-k))}
	case 10, 11, 12, 13, 14, 15:
		return act{s: s, o: get(k)}
	case 16, 17, 18, 19, 20, 21:
		return act{s: s, o: insert(k, v)}
	case 22, 23, 24, 25, 26, 27:
		return act{s: s, o: update(k, v)}
	}
	return act{s: s, o: remove(k)}
}

// hostile draws a call of any numbers.
func hostile(d *draws) act {
	l := edges()
	one := func() int { return l[d.below(len(l))] }
	if d.below(3) == 0 {
		return act{s: one() & math.MaxInt, level: max(one(), 1)}
	}
	return act{s: max(one(), 0), o: api.Op{Kind: one() % 9, Key: one(), Hi: one(), Value: one()}}
}

// answers counts how often each of the answers came.
type answers map[string]int

func (n answers) has(t *testing.T, least int, wants ...string) {
	t.Helper()
	for _, s := range wants {
		if n[s] < least {
			t.Errorf("the answer %s came %d times", s, n[s])
		}
	}
}

// Promises 19.1 to 19.6, W1, W2: long drawn runs against the chapter's sentences, some on few keys and some on all, with many slots and with few, and with calls that are errors.
func TestDrawnRuns(t *testing.T) {
	d := draws(1)
	n := answers{}
	for round := range 4000 {
		keys, sessions := []int{1, 2, 4, 8, 64}[round%5], 1+d.below(8)
		limit := uint64(1 << 40)
		if round%3 == 0 {
			limit = uint64(1 + d.below(60))
		}
		b := start(t, 1+d.below([]int{4, 20, 256}[round%3]), limit)
		for range 30 + d.below(170) {
			a := drawn(&d, b.m, keys, sessions)
			if d.below(8) == 0 {
				a = hostile(&d)
			}
			switch {
			case a.s < 0:
				b.collect()
			case a.level > 0:
				b.begin(a.s, a.level)
			default:
				n[told(b.do(a.s, a.o))]++
			}
			b.exists(uint64(d.below(int(b.p.clock) + 2)))
			if t.Failed() {
				t.Fatalf("round %d, %v", round, a)
			}
		}
		b.always()
	}
	n.has(t, 50, none, exists, committed, asked, conflict, invalid, full, over)
}

// Promise 19.6: no call panics and every call ends, whatever it is given and in any order.
func TestNoPanic(t *testing.T) {
	d := draws(2)
	for range 300 {
		m, _ := New(api.Conf{Slots: 1 + d.below(256), Limit: 1 + uint64(d.below(500))})
		for range 500 {
			switch d.below(8) {
			case 0:
				hostile(&d).on(m)
			case 1:
				m.Pairs(d.next())
				m.Status(int(d.next()))
				m.Live()
			default:
				drawn(&d, m, 64, 8).on(m)
			}
			if m.Used() < 0 || m.Used() > 256 || m.Now() > 500 {
				t.Fatalf("%d slots are used at %d", m.Used(), m.Now())
			}
		}
	}
}
