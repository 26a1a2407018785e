package outcome

import (
	"runtime"
	"sync"
	"sync/atomic"
	"testing"

	"vinculum/api"
)

// The tests of this file hold the section Ways: what is done once is done once, and each count is one word, whoever calls side by side.

const workers = 8

// aside runs a function for each worker, side by side: none of them begins until all are there.
func aside(f func(k int)) {
	var all sync.WaitGroup
	var there atomic.Int64
	for k := range workers {
		all.Go(func() {
			there.Add(1)
			for there.Load() < workers {
				runtime.Gosched()
			}
			f(k)
		})
	}
	all.Wait()
}

// Promise 18.2: of many that tell side by side one decides, and each of them finds afterwards what that one has told.
func TestOneDecides(t *testing.T) {
	for range 20000 {
		o := New()
		var told [workers]bool
		var found [workers][2]int
		aside(func(k int) {
			o.Tell(api.SPrep, k)
			told[k] = o.Tell(api.SCommitted+k%2, 100+k)
			state, reason, ok := o.Get()
			if !ok {
				t.Error("Get tells nothing after Tell")
			}
			found[k] = [2]int{state, reason}
		})
		who := -1
		for k, ok := range told {
			if ok && who >= 0 {
				t.Errorf("%d and %d have decided", who, k)
			}
			if ok {
				who = k
			}
		}
		want := [2]int{api.SCommitted + who%2, 100 + who}
		for k := range found {
			if found[k] != want {
				t.Fatalf("%d finds %v, and %d has decided", k, found[k], who)
			}
		}
		if o.Count() != 2*workers {
			t.Errorf("Count() = %d", o.Count())
		}
	}
}

// Whoever looks while others tell finds nothing, or all that one of them has told, and that for good.
func TestNoHalfOutcome(t *testing.T) {
	for range 20000 {
		o := New()
		aside(func(k int) {
			if k == 0 {
				o.Tell(api.SAborted, 40)
				return
			}
			if k == 1 {
				o.Tell(api.SCommitted, 30)
				return
			}
			was := 0
			for range 10 {
				state, reason, ok := o.Get()
				if ok != (state != 0) || reason != 10*state || was != 0 && state != was {
					t.Errorf("Get() = %d, %d, %v behind %d", state, reason, ok, was)
				}
				was = state
			}
		})
	}
}

// No call of Tell is lost to the count.
func TestNoCallIsLost(t *testing.T) {
	const each = 20000
	o := New()
	aside(func(k int) {
		for n := range each {
			o.Tell(n%7, k)
		}
	})
	if o.Count() != workers*each {
		t.Errorf("Count() = %d of %d", o.Count(), workers*each)
	}
}

// Of many that ask for a value side by side one calls f, and as soon as it has the value, all have.
func TestOneCalls(t *testing.T) {
	for range 20000 {
		var calls atomic.Int64
		var there atomic.Bool
		l := Make(func() int {
			calls.Add(1)
			return 7
		})
		aside(func(k int) {
			late := there.Load()
			got := l.Get()
			if got != 7 && (got != 0 || late) {
				t.Errorf("Get() = %d, late: %v", got, late)
			}
			if got == 7 {
				there.Store(true)
			}
			if !l.Done() {
				t.Error("Done() = false after Get")
			}
		})
		if calls.Load() != 1 || l.Get() != 7 {
			t.Fatalf("Get() = %d after %d calls", l.Get(), calls.Load())
		}
	}
}

// passAside has each worker pass a Gate some times, and holds that as many do as it lets, and that what is left never goes up.
func passAside(t *testing.T, n, each int) {
	t.Helper()
	g := NewGate(n)
	var passed [workers]int
	aside(func(k int) {
		was := max(n, 0)
		for range each {
			if g.Pass() {
				passed[k]++
			}
			left := g.Left()
			if left > was || left < 0 {
				t.Errorf("Left() = %d behind %d", left, was)
			}
			was = left
		}
	})
	sum := 0
	for _, p := range passed {
		sum += p
	}
	if want := min(max(n, 0), workers*each); sum != want || g.Left() != max(n, 0)-want {
		t.Errorf("%d of %d have passed, and %d are left", sum, n, g.Left())
	}
}

// Of many that pass a Gate side by side as many do as it lets.
func TestPassesAsOften(t *testing.T) {
	for n := -1; n <= 3*workers; n++ {
		for range 500 {
			passAside(t, n, 2)
		}
	}
	const each = 50000
	for _, n := range []int{each, workers*each - 1, workers * each, workers*each + 5} {
		passAside(t, n, each)
	}
}
