package outcome

import (
	"math"
	"slices"
	"testing"

	"vinculum/api"
)

// edges are numbers at the edges of what states, reasons and ints can be.
func edges() []int {
	return []int{math.MinInt, math.MinInt + 1, math.MinInt32, -65536, -5, -4, -3, -2, -1, 0, 1, 2, 3, 4, 5, 6, 7, 255, 256, 259, 260, 65535, 65536, 65539, 1 << 32, 1<<32 + 3, 1<<32 + 4, math.MaxInt - 1, math.MaxInt}
}

// ends tells whether a state is one that an Outcome can have.
func ends(state int) bool { return state == 3 || state == 4 }

// draws is a row of numbers that looks like drawn ones, and is the same each time.
type draws uint64

func (d *draws) next() uint64 {
	*d += 0x9e3779b97f4a7c15
	n := uint64(*d)
	n = (n ^ n>>30) * 0xbf58476d1ce4e5b9
	n = (n ^ n>>27) * 0x94d049bb133111eb
	return n ^ n>>31
}

func (d *draws) below(n int) int { return int(d.next() % uint64(n)) }

// plain is an Outcome by the chapter's sentences: all that was told, in order.
type plain [][2]int

// decides finds the first that is told with a state that can be.
func (p plain) decides() (int, int, bool) {
	for _, x := range p {
		if ends(x[0]) {
			return x[0], x[1], true
		}
	}
	return 0, 0, false
}

// is holds what an Outcome answers.
func is(t *testing.T, o *Outcome, p plain) {
	t.Helper()
	state, reason, told := p.decides()
	for range 2 {
		if s, r, ok := o.Get(); s != state || r != reason || ok != told {
			t.Errorf("Get() = %d, %d, %v after %v", s, r, ok, p)
		}
		if n := o.Count(); n != len(p) {
			t.Errorf("Count() = %d after %v", n, p)
		}
	}
}

// tells tells an Outcome and its plain one the same.
func tells(t *testing.T, o *Outcome, p *plain, state, reason int) {
	t.Helper()
	_, _, before := p.decides()
	want := !before && ends(state)
	*p = append(*p, [2]int{state, reason})
	if got := o.Tell(state, reason); got != want {
		t.Errorf("Tell(%d, %d) = %v, want %v, in %v", state, reason, got, want, *p)
	}
	is(t, o, *p)
}

// Promise 18.1: the example of the chapter.
func TestExample(t *testing.T) {
	o := New()
	if !o.Tell(api.SAborted, 2) {
		t.Error("the first Tell is false")
	}
	if o.Tell(api.SCommitted, 0) {
		t.Error("the second Tell is true")
	}
	if state, reason, told := o.Get(); state != api.SAborted || reason != 2 || !told {
		t.Errorf("Get() = %d, %d, %v", state, reason, told)
	}
}

// Promise 18.1: a new Outcome has not been set, and nothing was told.
func TestNewIsUnset(t *testing.T) {
	is(t, New(), nil)
}

// Promise 18.1: of all states at the edges SCommitted and SAborted set an Outcome, whatever the reason is, and no other state changes anything.
func TestEachState(t *testing.T) {
	if api.SCommitted != 3 || api.SAborted != 4 {
		t.Fatal("other states")
	}
	set := 0
	for _, state := range edges() {
		for _, reason := range edges() {
			o, p := New(), plain{}
			tells(t, o, &p, state, reason)
			if ends(state) {
				set++
			}
			tells(t, o, &p, api.SCommitted, -7)
			tells(t, o, &p, state, reason)
			tells(t, o, &p, api.SAborted, 9)
		}
	}
	if set != 2*len(edges()) {
		t.Errorf("%d were set", set)
	}
}

// Promises 18.1, 18.2: every sequence of five Tells: the first one that returns true decides, and no other one returns true.
func TestEverySequence(t *testing.T) {
	states := []int{0, api.SActive, api.SPrep, api.SCommitted, api.SAborted, api.SDone, -3}
	for n := range 7 * 7 * 7 * 7 * 7 {
		o, p := New(), plain{}
		for i := range 5 {
			tells(t, o, &p, states[n%len(states)], 10+i)
			n /= len(states)
		}
	}
}

// Promises 18.1, 18.2: long drawn runs, most of them with many Tells ahead of the one that decides.
func TestLongRuns(t *testing.T) {
	d := draws(1)
	l := edges()
	late := 0
	for range 300 {
		o, p := New(), plain{}
		for n := range 200 {
			state := l[d.below(len(l))]
			if _, _, told := p.decides(); ends(state) && !told && n > 20 {
				late++
			}
			tells(t, o, &p, state, l[d.below(len(l))])
		}
	}
	if late < 50 {
		t.Errorf("%d decided late", late)
	}
}

// Promise 18.1: Count goes on however often Tell is called.
func TestCountsOn(t *testing.T) {
	o := New()
	const many = 200000
	for n := range many {
		o.Tell(n%6, n)
	}
	if o.Count() != many {
		t.Errorf("Count() = %d", o.Count())
	}
	if state, reason, told := o.Get(); state != api.SCommitted || reason != 3 || !told {
		t.Errorf("Get() = %d, %d, %v", state, reason, told)
	}
}

// Promise 18.1: each of New's Outcomes is one of its own.
func TestOutcomesApart(t *testing.T) {
	a, b, c := New(), New(), New()
	pa, pb := plain{}, plain{}
	tells(t, a, &pa, api.SAborted, 5)
	is(t, b, pb)
	tells(t, b, &pb, api.SCommitted, 6)
	tells(t, b, &pb, 0, 7)
	is(t, a, pa)
	is(t, c, nil)
}

// Promise 18.1: of a Gate, all that it answers to a number of calls.
func passes(t *testing.T, g *Gate, n, calls int) {
	t.Helper()
	left := max(n, 0)
	for range calls {
		if got := g.Left(); got != left {
			t.Fatalf("Left() = %d of %d, want %d", got, n, left)
		}
		if got := g.Pass(); got != (left > 0) {
			t.Fatalf("Pass() = %v of %d, and %d were left", got, n, left)
		}
		left = max(left-1, 0)
	}
	for range 2 {
		if got := g.Left(); got != left {
			t.Fatalf("Left() = %d of %d, want %d", got, n, left)
		}
	}
}

// Promise 18.1: a Gate is passed n times and not once more, and a negative n counts as 0.
func TestGates(t *testing.T) {
	for n := -20; n <= 300; n++ {
		passes(t, NewGate(n), n, max(n, 0)+5)
	}
	for _, n := range edges() {
		passes(t, NewGate(n), n, 1000)
	}
}

// Promise 18.1: a large Gate to its end.
func TestLargeGate(t *testing.T) {
	const many = 1 << 18
	passes(t, NewGate(many), many, many+3)
}

// Promise 18.1: each of NewGate's Gates is one of its own.
func TestGatesApart(t *testing.T) {
	a, b, c := NewGate(2), NewGate(2), NewGate(0)
	passes(t, a, 2, 5)
	passes(t, c, 0, 2)
	passes(t, b, 2, 1)
	passes(t, a, 0, 1)
	passes(t, b, 1, 3)
}

// Promise 18.1: to ask changes nothing, in any order of Pass and Left.
func TestEveryOrderOfGateCalls(t *testing.T) {
	for n := -1; n <= 4; n++ {
		for calls := range 1 << 8 {
			g, left := NewGate(n), max(n, 0)
			for i := range 8 {
				if calls>>i&1 == 0 {
					if got := g.Left(); got != left {
						t.Fatalf("Left() = %d of %d, want %d", got, n, left)
					}
					continue
				}
				if got := g.Pass(); got != (left > 0) {
					t.Fatalf("Pass() = %v of %d, and %d were left", got, n, left)
				}
				left = max(left-1, 0)
			}
		}
	}
}

// Promise 18.3: no call panics, whatever it is given, in any order.
func TestNoPanic(t *testing.T) {
	d := draws(2)
	l := edges()
	for range 2000 {
		o, g := New(), NewGate(l[d.below(len(l))])
		lazy := Make(fails()[d.below(len(fails()))])
		for range 20 {
			switch d.below(7) {
			case 0:
				o.Tell(l[d.below(len(l))], l[d.below(len(l))])
			case 1:
				o.Get()
			case 2:
				o.Count()
			case 3:
				lazy.Get()
			case 4:
				lazy.Done()
			case 5:
				g.Pass()
			case 6:
				g.Left()
			}
		}
		if o.Count() < 0 || g.Left() < 0 {
			t.Error("a count is negative")
		}
	}
}

// Every answer is a value: what a caller does with it changes nothing.
func TestAnswersApart(t *testing.T) {
	o := New()
	o.Tell(api.SAborted, 2)
	state, reason, told := o.Get()
	state, reason, told = state+1, reason+1, !told
	is(t, o, plain{{api.SAborted, 2}})
	if slices.Contains([]int{state, reason}, 4) || told {
		t.Error("other values")
	}
}
