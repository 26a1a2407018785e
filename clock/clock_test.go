package clock

import (
	"math"
	"slices"
	"sync"
	"testing"

	"vinculum/api"
	"vinculum/arena"
)

const last uint64 = 1099511627776 // 2^40

// held is an Arena that holds the words l.
func held(t *testing.T, l ...uint64) *arena.Arena {
	t.Helper()
	a, e := arena.New(len(l))
	if e != api.OK {
		t.Fatalf("arena.New(%d) = %d", len(l), e)
	}
	for i, w := range l {
		a.Store(i, w)
	}
	return a
}

// made is a Clock on word at of a.
func made(t *testing.T, a *arena.Arena, at int, limit uint64) *Clock {
	t.Helper()
	c, e := New(a, at, limit)
	if e != api.OK || c == nil {
		t.Fatalf("New(a, %d, %d) = %v, %d", at, limit, c, e)
	}
	return c
}

// draws holds that Draw returns a time, and that it is the time then.
func draws(t *testing.T, c *Clock, want uint64) {
	t.Helper()
	if n, e := c.Draw(); n != want || e != api.OK {
		t.Errorf("Draw() = %d, %d; want %d, OK", n, e, want)
	}
	if c.Now() != want {
		t.Errorf("Now() = %d behind Draw, want %d", c.Now(), want)
	}
}

// over holds that Draw returns ErrOver and leaves the word as it is.
func over(t *testing.T, c *Clock, now uint64) {
	t.Helper()
	if n, e := c.Draw(); n != 0 || e != api.ErrOver {
		t.Errorf("Draw() = %d, %d; want 0, ErrOver", n, e)
	}
	if c.Now() != now {
		t.Errorf("Now() = %d behind Draw, want %d", c.Now(), now)
	}
}

// words holds all words of an Arena against l.
func words(t *testing.T, a *arena.Arena, l ...uint64) {
	t.Helper()
	if got := a.Words(); !slices.Equal(got, l) {
		t.Errorf("Words() = %v, want %v", got, l)
	}
}

// noWords are places at which an Arena of n words has none.
func noWords(n int) []int {
	return []int{math.MinInt, math.MinInt + 1, math.MinInt32, -100000, -n - 1, -n, -2, -1, n, n + 1, 2 * n, 100000, 100001, math.MaxInt32, math.MaxInt - 1, math.MaxInt}
}

// noLimits are numbers that are no limit.
func noLimits() []uint64 {
	return []uint64{0, last + 1, last + 2, 1 << 41, 1<<41 + 1, 1 << 61, 1 << 63, 1<<63 + 5, math.MaxUint64 - 1, math.MaxUint64}
}

// Promise 4.1: New at the words and limits that are permitted, the edges among them.
func TestNew(t *testing.T) {
	for _, n := range []int{1, 2, 3, 100000} {
		for _, at := range []int{0, n / 2, n - 1} {
			for _, limit := range []uint64{1, 2, 65535, 1 << 32, last - 1, last} {
				c := made(t, held(t, make([]uint64, n)...), at, limit)
				if c.Limit() != limit || c.Now() != 0 {
					t.Errorf("%d words: New(a, %d, %d): Limit() = %d, Now() = %d", n, at, limit, c.Limit(), c.Now())
				}
				draws(t, c, 1)
				if c.Limit() != limit {
					t.Errorf("%d words: Limit() = %d behind Draw, want %d", n, c.Limit(), limit)
				}
			}
		}
	}
}

// Promise 4.1: New without an Arena, without a word, or with a limit that is none.
func TestNewRefuses(t *testing.T) {
	refuses := func(a *arena.Arena, at int, limit uint64) {
		t.Helper()
		if c, e := New(a, at, limit); c != nil || e != api.ErrArg {
			t.Errorf("New(%v, %d, %d) = %v, %d; want nil, ErrArg", a != nil, at, limit, c, e)
		}
	}
	for _, n := range []int{1, 2, 5} {
		a := held(t, make([]uint64, n)...)
		before := a.Count()
		for _, at := range noWords(n) {
			for _, limit := range []uint64{0, 1, 7, last, last + 1} {
				refuses(a, at, limit)
			}
		}
		for at := range n {
			for _, limit := range noLimits() {
				refuses(a, at, limit)
			}
		}
		if a.Count() != before {
			t.Errorf("%d words: %d accesses by refused calls", n, a.Count()-before)
		}
		words(t, a, make([]uint64, n)...)
	}
	for _, at := range append(noWords(1), 0, 1) {
		for _, limit := range append(noLimits(), 1, 5, last) {
			refuses(nil, at, limit)
		}
	}
}

// Promise 4.1: New takes the word as it is: it neither sets nor accesses it.
func TestNewLeavesTheWord(t *testing.T) {
	for _, w := range []uint64{0, 1, 4, 5, 6, last, math.MaxUint64} {
		a := held(t, 20, w, 22)
		before := a.Count()
		c := made(t, a, 1, 5)
		if a.Count() != before {
			t.Errorf("a word %d: %d accesses by New", w, a.Count()-before)
		}
		words(t, a, 20, w, 22)
		if c.Now() != w {
			t.Errorf("Now() = %d, want %d", c.Now(), w)
		}
	}
}

// Promise 4.1: the example of the chapter.
func TestExample(t *testing.T) {
	c := made(t, held(t, 0), 0, 1)
	draws(t, c, 1)
	over(t, c, 1)
}

// Promise 4.1: Draw up to a limit, and again and again behind it.
func TestDrawToTheLimit(t *testing.T) {
	for _, limit := range []uint64{1, 2, 3, 100} {
		a := held(t, 7, 0, 9)
		c := made(t, a, 1, limit)
		for n := range limit {
			draws(t, c, n+1)
		}
		for range 3 {
			over(t, c, limit)
		}
		words(t, a, 7, limit, 9)
	}
}

// Promise 4.1: Draw from words below a limit, at it and above it, up to the greatest of each.
func TestDrawFromAnyWord(t *testing.T) {
	for _, limit := range []uint64{1, 2, 5, 65535, 1 << 32, last - 1, last} {
		for _, w := range []uint64{0, 1, 2, 3, 4, 5, 6, 65534, 65535, 65536, 1<<32 - 1, 1 << 32, last - 2, last - 1, last, last + 1, 1 << 61, 1<<63 - 1, 1 << 63, math.MaxUint64 - 1, math.MaxUint64} {
			for at := range 3 {
				l := []uint64{30, 31, 32}
				l[at] = w
				a := held(t, l...)
				c := made(t, a, at, limit)
				if w < limit {
					l[at] = w + 1
					draws(t, c, w+1)
				} else {
					over(t, c, w)
				}
				words(t, a, l...)
			}
		}
	}
}

// Promise 4.1: Now and Draw follow the word, whoever has set it.
func TestTheWordIsTheTime(t *testing.T) {
	a := held(t, 0, 0)
	c := made(t, a, 1, 10)
	draws(t, c, 1)
	a.Store(1, 7)
	if c.Now() != 7 {
		t.Errorf("Now() = %d behind Store(1, 7)", c.Now())
	}
	draws(t, c, 8)
	a.Add(1, 2)
	over(t, c, 10)
	a.Store(1, math.MaxUint64)
	over(t, c, math.MaxUint64)
	a.Store(1, 3)
	draws(t, c, 4)
	a.Store(0, 9)
	draws(t, c, 5)
	words(t, a, 9, 5)
}

// Promise 4.1: Now and Limit change nothing.
func TestTellingChangesNothing(t *testing.T) {
	a := held(t, 5, 6, 7)
	c := made(t, a, 1, 8)
	for range 3 {
		if c.Now() != 6 || c.Limit() != 8 {
			t.Errorf("Now() = %d, Limit() = %d; want 6, 8", c.Now(), c.Limit())
		}
	}
	words(t, a, 5, 6, 7)
	draws(t, c, 7)
}

// Promise 4.1: how often each call accesses the word where nobody else does: a Draw looks at it and exchanges it once, and one that is over does not exchange.
func TestAccesses(t *testing.T) {
	a := held(t, 0, 0)
	c := made(t, a, 1, 2)
	for i, x := range []struct {
		name string
		call func()
		want int
	}{
		{"Limit", func() { c.Limit() }, 0},
		{"Now", func() { c.Now() }, 1},
		{"Draw", func() { c.Draw() }, 2},
		{"Draw", func() { c.Draw() }, 2},
		{"Draw that is over", func() { c.Draw() }, 1},
		{"Now", func() { c.Now() }, 1},
	} {
		before := a.Count()
		x.call()
		if got := a.Count() - before; got != x.want {
			t.Errorf("call %d, %s: %d accesses, want %d", i, x.name, got, x.want)
		}
	}
}

// Promise 4.1: Clocks on one word share the time, each with its own limit; those on other words or other Arenas share nothing.
func TestSeveralClocks(t *testing.T) {
	a, b := held(t, 0, 0), held(t, 0, 0)
	near, far := made(t, a, 0, 3), made(t, a, 0, 6)
	beside, other := made(t, a, 1, 4), made(t, b, 0, 5)
	draws(t, near, 1)
	draws(t, far, 2)
	draws(t, near, 3)
	over(t, near, 3)
	draws(t, far, 4)
	over(t, near, 4)
	draws(t, beside, 1)
	draws(t, other, 1)
	draws(t, other, 2)
	draws(t, far, 5)
	draws(t, far, 6)
	over(t, far, 6)
	words(t, a, 6, 1)
	words(t, b, 2, 0)
	if near.Limit() != 3 || far.Limit() != 6 || beside.Limit() != 4 || other.Limit() != 5 {
		t.Errorf("Limit() = %d, %d, %d, %d", near.Limit(), far.Limit(), beside.Limit(), other.Limit())
	}
}

// Promise 4.1: a Clock stays on the Arena it was made on, of which a copy is another.
func TestACopyIsAnotherArena(t *testing.T) {
	a := held(t, 0)
	c := made(t, a, 0, 9)
	draws(t, c, 1)
	b := a.Copy()
	d := made(t, b, 0, 9)
	draws(t, c, 2)
	draws(t, c, 3)
	draws(t, d, 2)
	words(t, a, 3)
	words(t, b, 2)
}

// Promises 4.1 and 4.2: long runs of calls on three Clocks of two words, against plain numbers.
func TestRuns(t *testing.T) {
	seed := uint64(4)
	next := func(m uint64) uint64 {
		seed = seed*6364136223846793005 + 1442695040888963407
		return seed >> 33 % m
	}
	for range 300 {
		a := held(t, 0, 0, 0)
		at, limits := []int{0, 2, 2}, []uint64{1 + next(40), 1 + next(40), 1 + next(40)}
		var clocks []*Clock
		for i := range at {
			clocks = append(clocks, made(t, a, at[i], limits[i]))
		}
		l := []uint64{0, 0, 0}
		for range 100 {
			i := next(3)
			w := &l[at[i]]
			switch next(8) {
			case 0:
				*w = next(50)
				a.Store(at[i], *w)
			case 1:
				if got := clocks[i].Now(); got != *w {
					t.Fatalf("Now() = %d, want %d", got, *w)
				}
			default:
				want, e := uint64(0), api.ErrOver
				if *w < limits[i] {
					*w++
					want, e = *w, api.OK
				}
				if n, got := clocks[i].Draw(); n != want || got != e {
					t.Fatalf("limit %d: Draw() = %d, %d; want %d, %d", limits[i], n, got, want, e)
				}
			}
			if got := a.Words(); !slices.Equal(got, l) {
				t.Fatalf("Words() = %v, want %v", got, l)
			}
		}
	}
}

// Promise 4.2: a Clock that is alone draws every time up to its limit once, in their order.
func TestTimesAscend(t *testing.T) {
	c := made(t, held(t, 0), 0, 50000)
	for n := range uint64(50000) {
		if got, e := c.Draw(); got != n+1 || e != api.OK {
			t.Fatalf("Draw() = %d, %d; want %d", got, e, n+1)
		}
	}
	over(t, c, 50000)
}

// drawAll draws until no time is left, and returns what was drawn.
func drawAll(c *Clock) []uint64 {
	var l []uint64
	for {
		n, e := c.Draw()
		if e != api.OK {
			return l
		}
		l = append(l, n)
	}
}

// Promise 4.2 and section Ways: where many draw at a time, by one Clock or by several on the same word, every time is drawn once, each of them draws ascending times, and the word never passes the limit.
func TestNoTimeIsDrawnTwice(t *testing.T) {
	const workers, limit = 8, 40000
	a := held(t, 3, 0, 4)
	shared := made(t, a, 1, limit)
	drawn, past := make([][]uint64, workers), make([]uint64, workers)
	var all sync.WaitGroup
	for k := range workers {
		c := shared
		if k%2 == 1 {
			c = made(t, a, 1, limit)
		}
		all.Go(func() {
			drawn[k] = drawAll(c)
			for range 2000 {
				c.Draw()
				past[k] = max(past[k], c.Now())
			}
		})
	}
	all.Wait()
	var times []uint64
	for k, l := range drawn {
		if !slices.IsSorted(l) {
			t.Errorf("worker %d drew a smaller time behind a greater one", k)
		}
		if past[k] != limit {
			t.Errorf("worker %d saw Now() = %d, want %d", k, past[k], limit)
		}
		times = append(times, l...)
	}
	slices.Sort(times)
	if len(times) != limit {
		t.Fatalf("%d times drawn, want %d", len(times), limit)
	}
	for i, n := range times {
		if n != uint64(i)+1 {
			t.Fatalf("time %d is drawn where %d is next", n, i+1)
		}
	}
	words(t, a, 3, limit, 4)
}

// Promise 4.2: the last time goes to one alone, however many ask for it at a time.
func TestTheLastTime(t *testing.T) {
	const workers = 8
	for range 200 {
		c := made(t, held(t, last-1), 0, last)
		got, errs := make([]uint64, workers), make([]api.Errno, workers)
		var all sync.WaitGroup
		for k := range workers {
			all.Go(func() { got[k], errs[k] = c.Draw() })
		}
		all.Wait()
		won := 0
		for k := range workers {
			switch {
			case got[k] == last && errs[k] == api.OK:
				won++
			case got[k] != 0 || errs[k] != api.ErrOver:
				t.Errorf("Draw() = %d, %d", got[k], errs[k])
			}
		}
		if won != 1 || c.Now() != last {
			t.Fatalf("%d have drawn the last time; Now() = %d", won, c.Now())
		}
	}
}

// Promise 4.3: no call panics, whatever it is given and whatever the word holds.
func TestNoCallPanics(t *testing.T) {
	defer func() {
		if r := recover(); r != nil {
			t.Errorf("panic: %v", r)
		}
	}()
	for _, a := range []*arena.Arena{nil, held(t, 0), held(t, 0, 1), held(t, make([]uint64, 100000)...), {}} {
		for _, at := range append(noWords(2), 0, 1, 2, 99999) {
			for _, limit := range append(noLimits(), 1, 2, last-1, last) {
				c, e := New(a, at, limit)
				if e != api.OK {
					continue
				}
				for _, w := range []uint64{0, 1, limit - 1, limit, limit + 1, last, 1 << 63, math.MaxUint64} {
					a.Store(at, w)
					c.Draw()
					c.Now()
					c.Limit()
				}
			}
		}
	}
}
