package arena

import (
	"math"
	"slices"
	"sync"
	"testing"

	"vinculum/api"
)

// made is an Arena that holds the words l, with nothing else known of its count.
func made(t *testing.T, l ...uint64) *Arena {
	t.Helper()
	a, e := New(len(l))
	if e != api.OK || a == nil {
		t.Fatalf("New(%d) = %v, %d", len(l), a, e)
	}
	for i, w := range l {
		a.Store(i, w)
	}
	return a
}

// check holds the words of an Arena, asked together and one by one, against l; the loads count.
func check(t *testing.T, a *Arena, l ...uint64) {
	t.Helper()
	if got := a.Words(); !slices.Equal(got, l) {
		t.Errorf("Words() = %v, want %v", got, l)
	}
	if a.Len() != len(l) {
		t.Errorf("Len() = %d, want %d", a.Len(), len(l))
	}
	for i, w := range l {
		if got := a.Load(i); got != w {
			t.Errorf("Load(%d) = %d, want %d", i, got, w)
		}
	}
}

// noWords are places at which an Arena of n words has none.
func noWords(n int) []int {
	return []int{math.MinInt, math.MinInt + 1, math.MinInt32, -100000, -n - 1, -n, -2, -1, n, n + 1, 2 * n, 100000, 100001, math.MaxInt32, math.MaxInt - 1, math.MaxInt}
}

// oddWords are words at and beside the borders of 64 bits.
func oddWords() []uint64 {
	return []uint64{0, 1, 2, 1 << 31, 1<<32 - 1, 1 << 32, 1<<53 + 1, 1 << 61, 1<<63 - 1, 1 << 63, 1<<63 + 1, math.MaxUint64 - 1, math.MaxUint64}
}

// Promise 2.1: New at the numbers that are permitted, its edges among them.
func TestNew(t *testing.T) {
	for _, n := range []int{1, 2, 3, 256, 65536, 99999, 100000} {
		a, e := New(n)
		if e != api.OK || a == nil {
			t.Fatalf("New(%d) = %v, %d", n, a, e)
		}
		if a.Len() != n || a.Count() != 0 {
			t.Errorf("New(%d): Len() = %d, Count() = %d", n, a.Len(), a.Count())
		}
		l := a.Words()
		if len(l) != n || slices.ContainsFunc(l, func(w uint64) bool { return w != 0 }) {
			t.Errorf("New(%d): %d words, or one that is not 0", n, len(l))
		}
		if a.Load(0) != 0 || a.Load(n-1) != 0 || a.Count() != 2 {
			t.Errorf("New(%d): the first or the last word: Count() = %d", n, a.Count())
		}
	}
}

// Promise 2.1: New at the numbers that are not permitted.
func TestNewOutOfRange(t *testing.T) {
	for _, n := range []int{math.MinInt, math.MinInt32, -100000, -2, -1, 0, 100001, 100002, 1 << 17, math.MaxInt32, math.MaxInt} {
		if a, e := New(n); a != nil || e != api.ErrArg {
			t.Errorf("New(%d) = %v, %d", n, a, e)
		}
	}
}

// Promise 2.1: two Arenas have nothing in common.
func TestArenasAreApart(t *testing.T) {
	a, b := made(t, 1, 2), made(t, 3, 4)
	a.Add(0, 10)
	b.CAS(1, 4, 40)
	b.Load(0)
	if a.Count() != 3 || b.Count() != 4 {
		t.Errorf("Count() = %d, %d", a.Count(), b.Count())
	}
	check(t, a, 11, 2)
	check(t, b, 3, 40)
}

// Promise 2.1: Load and Store, at the first, the last and a middle word.
func TestLoadAndStore(t *testing.T) {
	a := made(t, 0, 0, 0)
	for _, w := range oddWords() {
		for i := range 3 {
			a.Store(i, w)
			if got := a.Load(i); got != w {
				t.Errorf("Store(%d, %d), Load = %d", i, w, got)
			}
		}
	}
	a.Store(0, 7)
	a.Store(2, 9)
	check(t, a, 7, math.MaxUint64, 9)
	a.Store(1, 0)
	check(t, a, 7, 0, 9)
}

// Promise 2.1: CAS from what the word is and from what it is not, and the example of the chapter.
func TestCAS(t *testing.T) {
	a := made(t, 0)
	if !a.CAS(0, 0, 5) || a.CAS(0, 0, 6) || a.Load(0) != 5 {
		t.Errorf("the example: %v", a.Words())
	}
	for _, is := range oddWords() {
		for _, old := range oddWords() {
			for _, to := range oddWords() {
				a := made(t, 3, is, is)
				want := is
				if old == is {
					want = to
				}
				if got := a.CAS(1, old, to); got != (old == is) {
					t.Errorf("a word %d: CAS(1, %d, %d) = %v", is, old, to, got)
				}
				check(t, a, 3, want, is)
			}
		}
	}
}

// Promise 2.1: CAS that sets a word to what it is, and CAS at the first and at the last word.
func TestCASAtTheEdges(t *testing.T) {
	a := made(t, 4, 5, 6)
	if !a.CAS(1, 5, 5) || a.CAS(1, 4, 4) || a.CAS(1, 6, 5) {
		t.Error("to what it is")
	}
	check(t, a, 4, 5, 6)
	if !a.CAS(0, 4, 6) || !a.CAS(2, 6, 4) || a.CAS(0, 4, 6) || a.CAS(2, 6, 4) {
		t.Error("the first and the last")
	}
	check(t, a, 6, 5, 4)
}

// Promise 2.1: Add, modulo 2^64.
func TestAdd(t *testing.T) {
	for _, x := range []struct{ is, n, want uint64 }{
		{0, 0, 0},
		{0, 1, 1},
		{7, 0, 7},
		{7, 8, 15},
		{0, math.MaxUint64, math.MaxUint64},
		{1<<32 - 1, 1, 1 << 32},
		{math.MaxUint64, 0, math.MaxUint64},
		{math.MaxUint64 - 1, 1, math.MaxUint64},
		{math.MaxUint64, 1, 0},
		{1, math.MaxUint64, 0},
		{7, math.MaxUint64, 6},
		{math.MaxUint64, math.MaxUint64, math.MaxUint64 - 1},
		{1 << 63, 1 << 63, 0},
		{1<<63 + 5, 1<<63 + 6, 11},
	} {
		for i := range 3 {
			l := []uint64{20, 21, 22}
			l[i] = x.is
			a := made(t, l...)
			if got := a.Add(i, x.n); got != x.want {
				t.Errorf("a word %d: Add(%d, %d) = %d, want %d", x.is, i, x.n, got, x.want)
			}
			l[i] = x.want
			check(t, a, l...)
		}
	}
}

// Promise 2.1: a place that is no word answers 0 or false, changes nothing and is not counted.
func TestNoSuchWord(t *testing.T) {
	for _, l := range [][]uint64{{0}, {8}, {0, 0, 0}, {4, 5, 6}, make([]uint64, 257)} {
		a := made(t, l...)
		before := a.Count()
		for _, i := range noWords(len(l)) {
			for _, w := range []uint64{0, 1, l[0], l[len(l)-1], math.MaxUint64} {
				a.Store(i, w)
				if got := a.Load(i); got != 0 {
					t.Errorf("%d words: Load(%d) = %d", len(l), i, got)
				}
				if a.CAS(i, 0, w) || a.CAS(i, w, 1) || a.CAS(i, w, w) {
					t.Errorf("%d words: CAS(%d) with %d is true", len(l), i, w)
				}
				if got := a.Add(i, w); got != 0 {
					t.Errorf("%d words: Add(%d, %d) = %d", len(l), i, w, got)
				}
			}
		}
		if a.Count() != before {
			t.Errorf("%d words: Count() = %d, want %d", len(l), a.Count(), before)
		}
		check(t, a, l...)
	}
}

// Promise 2.1: the last word of the greatest Arena, and the place behind it.
func TestGreatestArena(t *testing.T) {
	a, e := New(100000)
	if e != api.OK {
		t.Fatal(e)
	}
	a.Store(0, 1)
	a.Store(99999, 2)
	a.Store(100000, 3)
	if a.Add(99999, 5) != 7 || !a.CAS(99999, 7, 8) || a.Load(99999) != 8 || a.Load(0) != 1 || a.Load(99998) != 0 || a.Load(100000) != 0 {
		t.Error("a word at an edge")
	}
	if a.Count() != 7 {
		t.Errorf("Count() = %d", a.Count())
	}
}

// Promise 2.1: what Count counts, and what it does not.
func TestCount(t *testing.T) {
	a, _ := New(2)
	count := func(what string, want int) {
		t.Helper()
		if got := a.Count(); got != want {
			t.Errorf("%s: Count() = %d, want %d", what, got, want)
		}
	}
	count("new", 0)
	a.Load(0)
	count("Load", 1)
	a.Store(1, 3)
	count("Store", 2)
	a.CAS(1, 3, 4)
	count("CAS that exchanged", 3)
	a.CAS(1, 3, 4)
	count("CAS that did not", 4)
	a.CAS(1, 4, 4)
	count("CAS to what it is", 5)
	a.Add(0, 9)
	count("Add", 6)
	a.Add(0, 0)
	count("Add of 0", 7)
	a.Store(0, 9)
	count("Store of what it is", 8)
	a.Words()
	a.Len()
	a.Count()
	a.Copy()
	count("Words, Len, Count and Copy", 8)
	a.Load(2)
	a.Store(-1, 1)
	a.CAS(2, 0, 0)
	a.Add(-1, 1)
	count("no such word", 8)
	a.Load(1)
	count("Load", 9)
}

// Promise 2.1: Words shares nothing with the Arena, nor with what an earlier call returned.
func TestWordsAreLentToNobody(t *testing.T) {
	a := made(t, 5, 6, 7)
	l, m := a.Words(), a.Words()
	for i := range l {
		l[i] = 77
	}
	if !slices.Equal(m, []uint64{5, 6, 7}) {
		t.Errorf("the other list became %v", m)
	}
	check(t, a, 5, 6, 7)
	a.Store(0, 50)
	a.Add(1, 1)
	a.CAS(2, 7, 70)
	if !slices.Equal(m, []uint64{5, 6, 7}) {
		t.Errorf("a list from before became %v", m)
	}
	check(t, a, 50, 7, 70)
}

// Promise 2.1: Copy has the same words and the same Count, and then goes on by itself, as does what it was copied from.
func TestCopy(t *testing.T) {
	a := made(t, 5, 0, math.MaxUint64)
	a.Load(0)
	b := a.Copy()
	if b == nil || b == a {
		t.Fatalf("Copy() = %p of %p", b, a)
	}
	if a.Count() != 4 || b.Count() != 4 || b.Len() != 3 {
		t.Errorf("Count() = %d, of the copy %d; Len() = %d", a.Count(), b.Count(), b.Len())
	}
	b.Store(0, 1)
	b.Add(1, 2)
	b.CAS(2, math.MaxUint64, 3)
	if a.Count() != 4 || b.Count() != 7 {
		t.Errorf("the copy went on: Count() = %d, of the copy %d", a.Count(), b.Count())
	}
	check(t, a, 5, 0, math.MaxUint64)
	check(t, b, 1, 2, 3)
	c := b.Copy()
	b.Store(0, 10)
	b.Add(1, 10)
	b.CAS(2, 3, 10)
	if b.Count() != 13 || c.Count() != 10 {
		t.Errorf("the first went on: Count() = %d, of its copy %d", b.Count(), c.Count())
	}
	check(t, c, 1, 2, 3)
	check(t, b, 10, 12, 10)
}

// Promise 2.1: the copy of an Arena that nobody has used, and of the greatest one.
func TestCopyAtTheEdges(t *testing.T) {
	for _, n := range []int{1, 100000} {
		a, _ := New(n)
		b := a.Copy()
		if b.Len() != n || b.Count() != 0 || !slices.Equal(b.Words(), make([]uint64, n)) {
			t.Errorf("%d words: Len() = %d, Count() = %d", n, b.Len(), b.Count())
		}
		b.Store(n-1, 4)
		if a.Load(n-1) != 0 || b.Load(n-1) != 4 {
			t.Errorf("%d words: the last is shared", n)
		}
		b.Store(n, 4)
		if b.Count() != 2 {
			t.Errorf("%d words: Count() = %d", n, b.Count())
		}
	}
}

// Promises 2.1 and 2.2: long runs of calls, against plain words: each call answers by the one word it names, leaves all others as they were and counts once.
func TestRuns(t *testing.T) {
	const n = 5
	seed := uint64(1)
	next := func(m uint64) uint64 {
		seed = seed*6364136223846793005 + 1442695040888963407
		return seed >> 33 % m
	}
	a, _ := New(n)
	l, count := make([]uint64, n), 0
	for range 20000 {
		i, w, old := int(next(n+2))-1, next(4)-2, next(4)-2
		is, there := uint64(0), i >= 0 && i < n
		if there {
			is = l[i]
			count++
		}
		to, good := is, false
		switch next(4) {
		case 0:
			good = a.Load(i) == is
		case 1:
			a.Store(i, w)
			to, good = w, true
		case 2:
			if is == old {
				to = w
			}
			good = a.CAS(i, old, w) == (there && is == old)
		case 3:
			to = is + w
			good = a.Add(i, w) == to || !there
		}
		if there {
			l[i] = to
		}
		if got := a.Words(); !good || a.Count() != count || !slices.Equal(got, l) {
			t.Fatalf("place %d, word %d: %v, want %v; Count() = %d, want %d; answered well: %v", i, w, got, l, a.Count(), count, good)
		}
	}
}

// Promise 2.2 (and W8): every one of the four calls touches the word it names, no other, and counts one access.
func TestOneWordACall(t *testing.T) {
	calls := map[string]func(*Arena, int){
		"Load":    func(a *Arena, i int) { a.Load(i) },
		"Store":   func(a *Arena, i int) { a.Store(i, 1000) },
		"CAS":     func(a *Arena, i int) { a.CAS(i, uint64(i)+1, 1000) },
		"CAS not": func(a *Arena, i int) { a.CAS(i, 77, 1000) },
		"Add":     func(a *Arena, i int) { a.Add(i, math.MaxUint64) },
	}
	for name, call := range calls {
		for i := range 6 {
			l := []uint64{1, 2, 3, 4, 5, 6}
			a := made(t, l...)
			call(a, i)
			if a.Count() != 7 {
				t.Errorf("%s of word %d: counted %d accesses", name, i, a.Count()-6)
			}
			switch name {
			case "Store", "CAS":
				l[i] = 1000
			case "Add":
				l[i]--
			}
			check(t, a, l...)
		}
	}
}

// Section Ways: words are atomic: where many touch one word at a time, no sum and no exchange is lost, nor is a count.
func TestWordsAreAtomic(t *testing.T) {
	const workers, rounds = 8, 5000
	a, _ := New(3)
	won := make([]int, workers)
	var all sync.WaitGroup
	for k := range workers {
		all.Go(func() {
			for range rounds {
				a.Add(0, 1)
				w := a.Load(1)
				if a.CAS(1, w, w+1) {
					won[k]++
				}
				a.Store(2, uint64(k))
			}
		})
	}
	all.Wait()
	sum := 0
	for _, n := range won {
		sum += n
	}
	l := a.Words()
	if l[0] != workers*rounds || l[1] != uint64(sum) || l[2] >= workers {
		t.Errorf("%v, want %d and %d", l, workers*rounds, sum)
	}
	if a.Count() != 4*workers*rounds {
		t.Errorf("Count() = %d, want %d", a.Count(), 4*workers*rounds)
	}
}

// Promise 2.3: no call panics, whatever it is given.
func TestNoCallPanics(t *testing.T) {
	defer func() {
		if r := recover(); r != nil {
			t.Errorf("panic: %v", r)
		}
	}()
	for _, n := range append(noWords(2), 0, 1, 2) {
		New(n)
	}
	for _, n := range []int{1, 2, 100000} {
		a, _ := New(n)
		for _, i := range append(noWords(n), 0, n-1) {
			for _, w := range oddWords() {
				a.Load(i)
				a.Store(i, w)
				a.CAS(i, w, w)
				a.CAS(i, 0, w)
				a.Add(i, w)
			}
		}
		a.Len()
		a.Count()
		a.Words()
		a.Copy()
	}
}
