package mark

import (
	"math"
	"slices"
	"sync"
	"testing"
)

// The tests of this file hold the section Ways: the counts are atomic words, so that nothing is lost or told that was never so, whoever enters, leaves and looks meanwhile.

const workers = 8

// aside runs a function for each worker, side by side.
func aside(f func(k int)) {
	var all sync.WaitGroup
	for k := range workers {
		all.Go(func() { f(k) })
	}
	all.Wait()
}

// No more is kept than the times that are there.
func TestKeepsNoMore(t *testing.T) {
	m := of(5)
	for at := range uint64(1000) {
		m.Enter(at)
		m.Enter(at)
		m.Leave(at)
		m.Leave(at)
	}
	m.Enter(8)
	m.Enter(8)
	m.Leave(8)
	holds(t, m, plain{5, 8}, 4, 6, 9)
	if n := len(*m.tallies.Load()); n != 2 {
		t.Errorf("%d tallies are kept", n)
	}
}

// A list that somebody looks at stays as it is.
func TestListsStay(t *testing.T) {
	m := of(3, 5, 9)
	l := *m.tallies.Load()
	whole := slices.Clone(l[:cap(l)])
	m.Enter(4)
	m.Enter(12)
	m.Leave(5)
	m.Leave(9)
	if !slices.Equal(l[:cap(l)], whole) {
		t.Error("the list is another one")
	}
}

// withSpent makes Marks in which the tally of a time is spent, and not yet taken out.
func withSpent(at uint64, times ...uint64) (*Marks, *tally) {
	m := of(append(times, at)...)
	l := *m.tallies.Load()
	i, _ := l.find(at)
	l[i].change(-1)
	return m, l[i]
}

// A tally that is spent counts no more, for any call, until somebody takes it out.
func TestSpent(t *testing.T) {
	for _, at := range []uint64{2, 4, 6} {
		m, x := withSpent(at, 3, 5, 5)
		holds(t, m, plain{3, 5, 5}, 0, 2, 3, 4, 5, 6, 7)
		leaves(t, m, at, false)
		if x.change(1) || x.change(-1) || !x.spent() {
			t.Error("a spent tally counts again")
		}
		m.takeOut(x)
		holds(t, m, plain{3, 5, 5}, 0, 2, 3, 4, 5, 6, 7)
		if n := len(*m.tallies.Load()); n != 2 {
			t.Errorf("%d tallies", n)
		}
	}
	m, _ := withSpent(4)
	holds(t, m, nil, 0, 3, 4, 5)
}

// A time whose tally is spent gets another one in its place, which is not taken out with the former one.
func TestAnotherTally(t *testing.T) {
	for _, at := range []uint64{2, 4, 6} {
		m, x := withSpent(at, 3, 5, 5)
		m.Enter(at)
		holds(t, m, plain{3, 5, 5, at}, 0, 2, 3, 4, 5, 6, 7)
		if n := len(*m.tallies.Load()); n != 3 {
			t.Errorf("%d tallies", n)
		}
		m.takeOut(x)
		holds(t, m, plain{3, 5, 5, at}, 0, 2, 3, 4, 5, 6, 7)
		leaves(t, m, at, true)
		leaves(t, m, at, false)
		m.takeOut(x)
		holds(t, m, plain{3, 5, 5}, 0, 2, 3, 4, 5, 6, 7)
	}
}

// What many enter side by side is all there, be the times the same ones or not.
func TestNoTimeIsLost(t *testing.T) {
	const each = 2000
	for _, span := range []int{1, 2, 7, 300} {
		m := New()
		aside(func(k int) {
			d := draws(k)
			for range each {
				m.Enter(uint64(d.below(span)))
			}
		})
		var p plain
		for k := range workers {
			d := draws(k)
			for range each {
				p.enter(uint64(d.below(span)))
			}
		}
		holds(t, m, p, 0, 1, 2, math.MaxUint64)
	}
}

// Of many that remove times side by side, as many do as there were, and no more.
func TestLeavesAsOften(t *testing.T) {
	for _, span := range []int{1, 3, 100} {
		m := New()
		const each = 1500
		for n := range workers * each / 2 {
			m.Enter(uint64(n % span))
		}
		var left [workers]int
		aside(func(k int) {
			for n := range each {
				if m.Leave(uint64((n + k) % span)) {
					left[k]++
				}
			}
		})
		sum := 0
		for _, n := range left {
			sum += n
		}
		if sum+m.Len() != workers*each/2 {
			t.Errorf("%d of %d times are gone, and %d are left", sum, workers*each/2, m.Len())
		}
		for _, at := range m.All() {
			leaves(t, m, at, true)
		}
		holds(t, m, nil, 5)
	}
}

// A session finds what it has entered itself, whatever others do with the same times and with others.
func TestOwnTimesAreThere(t *testing.T) {
	for _, span := range []int{1, 2, 20} {
		m := New()
		aside(func(k int) {
			d := draws(k)
			for range 4000 {
				at := 10 + uint64(d.below(span))
				m.Enter(at)
				if low := m.Low(math.MaxUint64); low > at {
					t.Errorf("Low = %d, and %d is there", low, at)
				}
				if !m.Leave(at) {
					t.Errorf("%d is lost", at)
				}
			}
		})
		holds(t, m, nil, 5)
		if n := len(*m.tallies.Load()); n != 0 {
			t.Errorf("%d tallies are kept", n)
		}
	}
}

// Low never tells a time that is greater than one that was there all the while, or than the one that came before that one left: it does not pass over those that come behind its look.
func TestLowPassesOverNone(t *testing.T) {
	const rounds = 20000
	m := of(3, math.MaxUint64)
	done := make(chan struct{})
	var all sync.WaitGroup
	for range workers - 1 {
		all.Go(func() {
			for {
				select {
				case <-done:
					return
				default:
				}
				if low := m.Low(math.MaxUint64); low > 7 {
					t.Errorf("Low = %d", low)
					return
				}
			}
		})
	}
	at := uint64(3)
	for n := range rounds {
		next := 3 + uint64(n*5)%4
		m.Enter(next)
		m.Leave(at)
		at = next
	}
	close(done)
	all.Wait()
	holds(t, m, plain{at, math.MaxUint64}, 0, 9)
}

// As times go up, so does what Low tells, to each that asks.
func TestLowGoesUp(t *testing.T) {
	const rounds = 20000
	m := of(1)
	done := make(chan struct{})
	var all sync.WaitGroup
	for range workers - 1 {
		all.Go(func() {
			was := uint64(1)
			for {
				low := m.Low(math.MaxUint64)
				if low < was || low > rounds+1 {
					t.Errorf("Low = %d behind %d", low, was)
					return
				}
				was = low
				select {
				case <-done:
					return
				default:
				}
			}
		})
	}
	for at := range uint64(rounds) {
		m.Enter(at + 2)
		m.Leave(at + 1)
	}
	close(done)
	all.Wait()
	holds(t, m, plain{rounds + 1}, 0, rounds, rounds+2)
}
