package outcome

import (
	"errors"
	"math"
	"slices"
	"testing"

	"vinculum/api"
)

// fails are functions that do not come to return a number, or that do.
func fails() []func() int {
	var none map[int]*api.Txn
	zero := 0
	return []func() int{
		nil,
		func() int { return 7 },
		func() int { panic("f") },
		func() int { panic(errors.New("f")) },
		func() int { panic(nil) },
		func() int { panic(api.ErrArg) },
		func() int { return none[3].Level },
		func() int { return []int{1}[zero-1] },
		func() int { return 5 / zero },
		func() (n int) {
			defer func() { panic("late") }()
			return 9
		},
		func() (n int) {
			n = 9
			panic("with a value")
		},
		func() (n int) {
			defer func() { panic("again") }()
			panic("once")
		},
	}
}

// computes holds all that a Lazy answers whose function is called at most once.
func computes[T comparable](t *testing.T, want T) {
	t.Helper()
	calls := 0
	l := Make(func() T {
		calls++
		return want
	})
	for range 2 {
		if l.Done() || calls != 0 {
			t.Errorf("Done() = %v, %d calls ahead of Get", l.Done(), calls)
		}
	}
	for range 4 {
		if got := l.Get(); got != want {
			t.Errorf("Get() = %v, want %v", got, want)
		}
		if !l.Done() || calls != 1 {
			t.Errorf("Done() = %v, %d calls", l.Done(), calls)
		}
	}
}

// Promise 18.1: values of many types, zero ones among them.
func TestLazyOfMany(t *testing.T) {
	for _, n := range edges() {
		computes(t, n)
		computes(t, int8(n))
		computes(t, uint64(n))
		computes(t, [3]int{n, 0, n})
	}
	for _, s := range []string{"", "x", "a longer one\x00\xff"} {
		computes(t, s)
		computes[any](t, s)
	}
	computes(t, true)
	computes(t, false)
	computes(t, math.Inf(-1))
	computes(t, api.Txn{Level: api.LSnap, State: api.SDone, Begin: 1, End: 2})
	computes(t, struct{}{})
	computes(t, &api.Txn{})
	computes[*int](t, nil)
	computes[error](t, nil)
	computes[error](t, api.ErrArg)
	computes[any](t, nil)
	computes(t, make(chan int))
	computes(t, New())
}

// Promise 18.1: the value of the first time stays, whatever f would return later.
func TestFirstTime(t *testing.T) {
	n := 10
	l := Make(func() int {
		n++
		return n
	})
	n = 20
	for range 5 {
		if got := l.Get(); got != 21 {
			t.Errorf("Get() = %d", got)
		}
		n += 100
	}
}

// Promise 18.1: a list is told as f returned it, and is not looked into.
func TestLazyList(t *testing.T) {
	given := []int{1, 2, 3}
	l := Make(func() []int { return given })
	if got := l.Get(); !slices.Equal(got, given) || &got[0] != &given[0] {
		t.Errorf("Get() = %v", got)
	}
	f := Make(func() func() int { return func() int { return 4 } })
	if got := f.Get()(); got != 4 {
		t.Errorf("Get()() = %d", got)
	}
}

// Promise 18.1: an f that is nil is not called, and the value is zero.
func TestNilFunction(t *testing.T) {
	a, b, c := Make[int](nil), Make[string](nil), Make[*int](nil)
	d := Make[[2]api.Pair](nil)
	var f func() error
	e := Make(f)
	for range 3 {
		if a.Done() || b.Done() || c.Done() || d.Done() || e.Done() {
			t.Error("Done() = true")
		}
		if a.Get() != 0 || b.Get() != "" || c.Get() != nil || d.Get() != [2]api.Pair{} || e.Get() != nil {
			t.Error("Get() isn't zero")
		}
	}
}

// Promise 18.1: Done asks nothing of f, and f that is never asked for is never called.
func TestDoneAlone(t *testing.T) {
	l := Make(func() int {
		t.Error("f is called")
		return 0
	})
	for range 10 {
		if l.Done() {
			t.Error("Done() = true")
		}
	}
}

// Promise 18.1: f counts as called from the moment of its call on.
func TestDoneWithin(t *testing.T) {
	var l *Lazy[bool]
	l = Make(func() bool { return l.Done() })
	if l.Done() || !l.Get() || !l.Done() {
		t.Error("f finds that it was not called")
	}
}

// Promises 18.1, 18.3: an f that panics was called, is not called again, and leaves the value zero.
func TestPanics(t *testing.T) {
	for i, f := range fails() {
		calls := 0
		l := Make(func() int {
			calls++
			return f()
		})
		want := 0
		if i == 1 {
			want = 7
		}
		for range 3 {
			if got := l.Get(); got != want {
				t.Errorf("%d: Get() = %d, want %d", i, got, want)
			}
			if !l.Done() || calls != 1 {
				t.Errorf("%d: Done() = %v, %d calls", i, l.Done(), calls)
			}
		}
	}
}

// Promises 18.1, 18.3: a value of another kind, of an f that panics.
func TestPanicsWithOtherKinds(t *testing.T) {
	a := Make(func() string { panic("a") })
	b := Make(func() []int { panic(1) })
	c := Make(func() error { panic(errors.New("c")) })
	for range 2 {
		if a.Get() != "" || b.Get() != nil || c.Get() != nil {
			t.Error("a value that nobody returned")
		}
	}
}

// Every call ends: an f that asks for its own value finds the zero value, since it has returned none yet, and what it returns is the value from then on.
func TestAsksForItself(t *testing.T) {
	for _, times := range []int{1, 2, 10} {
		var l *Lazy[int]
		calls := 0
		l = Make(func() int {
			calls++
			n := 5
			for range times {
				n += 10 * l.Get()
			}
			return n
		})
		for range 3 {
			if got := l.Get(); got != 5 || calls != 1 || !l.Done() {
				t.Errorf("Get() = %d after %d calls", got, calls)
			}
		}
	}
}

// Every call ends: functions that ask for the values of one another, in a ring.
func TestAskInRing(t *testing.T) {
	for n := 2; n <= 6; n++ {
		for first := range n {
			ring := make([]*Lazy[int], n)
			calls := 0
			for i := range ring {
				ring[i] = Make(func() int {
					calls++
					return 1 + ring[(i+1)%n].Get()
				})
			}
			for i := range n {
				at := (first + i) % n
				if got := ring[at].Get(); got != n-i {
					t.Errorf("%d of %d = %d", at, n, got)
				}
			}
			if calls != n {
				t.Errorf("%d calls of %d functions", calls, n)
			}
		}
	}
}

// Every call ends: an f that asks for its own value and then panics.
func TestAsksAndPanics(t *testing.T) {
	var l *Lazy[string]
	calls := 0
	l = Make(func() string {
		calls++
		panic("x" + l.Get())
	})
	for range 2 {
		if l.Get() != "" || calls != 1 || !l.Done() {
			t.Errorf("%d calls", calls)
		}
	}
}

// Promise 18.1: each Lazy is one of its own, also with the same f.
func TestLaziesApart(t *testing.T) {
	n := 0
	f := func() int {
		n++
		return n
	}
	a, b, c := Make(f), Make(f), Make(f)
	if b.Get() != 1 || a.Done() || c.Done() || a.Get() != 2 || b.Get() != 1 || c.Done() || c.Get() != 3 || n != 3 {
		t.Errorf("%d, %d, %d after %d calls", a.Get(), b.Get(), c.Get(), n)
	}
}

// Promise 18.1: every sequence of eight Gets and Dones.
func TestEveryOrderOfLazyCalls(t *testing.T) {
	for orders := range 1 << 8 {
		calls, asked := 0, false
		l := Make(func() int {
			calls++
			return 40 + calls
		})
		for i := range 8 {
			if orders>>i&1 == 1 {
				asked = true
				if got := l.Get(); got != 41 {
					t.Errorf("Get() = %d", got)
				}
			} else if l.Done() != asked {
				t.Errorf("Done() = %v", l.Done())
			}
			if asked && calls != 1 || !asked && calls != 0 {
				t.Errorf("%d calls", calls)
			}
		}
	}
}

// No more is kept than the promises need: a function that was called is let go of.
func TestLetsGo(t *testing.T) {
	for _, f := range fails() {
		l := Make(f)
		l.Get()
		if l.f != nil {
			t.Error("the function is kept")
		}
	}
}
