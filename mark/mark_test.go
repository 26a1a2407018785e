package mark

import (
	"math"
	"slices"
	"testing"

	"vinculum/api"
	"vinculum/word"
)

const last uint64 = 1099511627776 // 2^40

// edges are times at the edges of what words and numbers can be.
func edges() []uint64 {
	return []uint64{0, 1, 2, 3, 4, 5, 6, 9, 255, 256, 65535, 65536, 1<<32 - 1, 1 << 32, last - 1, last, last + 1, last + 5, 1 << 41, 1 << 61, 1<<61 + 1, 1 << 62, 1<<62 + 5, 1<<62 + 65535, 1<<63 - 1, 1 << 63, 1<<63 + 5, math.MaxUint64 - 1, math.MaxUint64}
}

// around are the numbers of edges, and those beside them.
func around() []uint64 {
	var l []uint64
	for _, n := range edges() {
		l = append(l, n-1, n, n+1)
	}
	slices.Sort(l)
	return slices.Compact(l)
}

// plain is a multiset in no order: the chapter's sentences, and nothing else.
type plain []uint64

func (p *plain) enter(at uint64) { *p = append(*p, at) }

func (p *plain) leave(at uint64) bool {
	for i, n := range *p {
		if n == at {
			*p = append((*p)[:i:i], (*p)[i+1:]...)
			return true
		}
	}
	return false
}

func (p plain) low(now uint64) uint64 {
	for _, n := range p {
		if n < now {
			now = n
		}
	}
	return now
}

func (p plain) all() []uint64 {
	l := append([]uint64(nil), p...)
	slices.Sort(l)
	return l
}

// holds holds all that Marks tell against a plain multiset.
func holds(t *testing.T, m *Marks, p plain, nows ...uint64) {
	t.Helper()
	if got := m.All(); !slices.Equal(got, p.all()) {
		t.Fatalf("All() = %v, want %v", got, p.all())
	}
	if m.Len() != len(p) {
		t.Fatalf("Len() = %d, want %d", m.Len(), len(p))
	}
	for _, now := range nows {
		if got := m.Low(now); got != p.low(now) {
			t.Fatalf("Low(%d) = %d of %v", now, got, p.all())
		}
	}
}

// of makes Marks with times.
func of(times ...uint64) *Marks {
	m := New()
	for _, at := range times {
		m.Enter(at)
	}
	return m
}

// leaves holds what Leave returns.
func leaves(t *testing.T, m *Marks, at uint64, want bool) {
	t.Helper()
	if got := m.Leave(at); got != want {
		t.Errorf("Leave(%d) = %v, want %v", at, got, want)
	}
}

// draws is a row of numbers that looks like drawn ones, and is the same each time.
type draws uint64

func (d *draws) next() uint64 {
	*d += 0x9e3779b97f4a7c15
	n := uint64(*d)
	n = (n ^ n>>30) * 0xbf58476d1ce4e5b9
	n = (n ^ n>>27) * 0x94d049bb133111eb
	return n ^ n>>31
}

func (d *draws) below(n int) int { return int(d.next() % uint64(n)) }

// Promise 17.1: the example of the chapter.
func TestExample(t *testing.T) {
	m := New()
	m.Enter(5)
	m.Enter(3)
	if got := m.Low(9); got != 3 {
		t.Errorf("Low(9) = %d, want 3", got)
	}
}

// Promise 17.1: Marks without times.
func TestNewIsEmpty(t *testing.T) {
	m := New()
	holds(t, m, nil, around()...)
	for _, at := range around() {
		leaves(t, m, at, false)
	}
	holds(t, m, nil, around()...)
}

// Promise 17.1: each of New's Marks has times of its own.
func TestMarksApart(t *testing.T) {
	a, b := of(5, 7), of(5)
	leaves(t, a, 5, true)
	holds(t, a, plain{7}, 4, 6, 8)
	holds(t, b, plain{5}, 4, 6, 8)
	b.Enter(1)
	leaves(t, a, 1, false)
	holds(t, a, plain{7}, 4, 6, 8)
}

// Promise 17.1: one time, at each edge: it is there once, and it alone.
func TestOneTime(t *testing.T) {
	for _, at := range around() {
		m := of(at)
		holds(t, m, plain{at}, around()...)
		for _, other := range around() {
			if other != at {
				leaves(t, m, other, false)
			}
		}
		holds(t, m, plain{at}, around()...)
		leaves(t, m, at, true)
		leaves(t, m, at, false)
		holds(t, m, nil, around()...)
		m.Enter(at)
		holds(t, m, plain{at}, around()...)
	}
}

// Promise 17.1: two times, at all edges: the smaller one is the low one, until it has left.
func TestTwoTimes(t *testing.T) {
	for _, a := range edges() {
		for _, b := range edges() {
			m := of(a, b)
			holds(t, m, plain{a, b}, edges()...)
			leaves(t, m, a, true)
			holds(t, m, plain{b}, edges()...)
			leaves(t, m, a, a == b)
			leaves(t, m, b, a != b)
			holds(t, m, nil, edges()...)
		}
	}
}

// Promise 17.1: a time that was added several times is there until it was removed as often, and no time beside it goes.
func TestSeveralTimes(t *testing.T) {
	for _, n := range []int{1, 2, 3, 10, 1000} {
		for _, at := range []uint64{0, 3, 4, 5, last, math.MaxUint64} {
			m, p := of(4), plain{4}
			for range n {
				m.Enter(at)
				p.enter(at)
				holds(t, m, p, 2, 9)
			}
			for range n {
				leaves(t, m, at, true)
				p.leave(at)
				holds(t, m, p, 2, 9)
			}
			leaves(t, m, at, at == 4)
			leaves(t, m, at, false)
		}
	}
}

// Promise 17.1: the order in which times were added is not to be seen.
func TestAnyOrder(t *testing.T) {
	times := []uint64{7, 0, 3, 3, math.MaxUint64, 5}
	want := []uint64{0, 3, 3, 5, 7, math.MaxUint64}
	count := 0
	var permute func(k int)
	permute = func(k int) {
		if k == len(times) {
			count++
			if got := of(times...).All(); !slices.Equal(got, want) {
				t.Fatalf("%v: All() = %v", times, got)
			}
			return
		}
		for i := k; i < len(times); i++ {
			times[k], times[i] = times[i], times[k]
			permute(k + 1)
			times[k], times[i] = times[i], times[k]
		}
	}
	permute(0)
	if count != 720 {
		t.Errorf("%d orders", count)
	}
}

// Promise 17.1: what tells changes nothing, and neither does a Leave of what is not there.
func TestTellingChangesNothing(t *testing.T) {
	m, p := of(5, 3, 5), plain{5, 3, 5}
	for range 3 {
		holds(t, m, p, edges()...)
		for _, at := range []uint64{0, 2, 4, 6, math.MaxUint64} {
			leaves(t, m, at, false)
		}
		Garbage(1, 3, 5)
	}
	holds(t, m, p, edges()...)
}

// Promise 17.1 and rule 3: All returns new memory, with the room behind it.
func TestResultsApart(t *testing.T) {
	m := of(5, 3, 5)
	a, b := m.All(), m.All()
	a = append(a, 99)[:cap(a)]
	for i := range a {
		a[i] = 77
	}
	if !slices.Equal(b, []uint64{3, 5, 5}) {
		t.Errorf("another result is %v", b)
	}
	holds(t, m, plain{3, 5, 5}, 2, 4, 9)
	m.Enter(4)
	leaves(t, m, 3, true)
	if !slices.Equal(b, []uint64{3, 5, 5}) {
		t.Errorf("a result became %v", b)
	}
}

// Promise 17.1: every sequence of six calls that add or remove one of three times, against the chapter's sentences.
func TestEverySequence(t *testing.T) {
	times := []uint64{1, 4, 6}
	for code := range 6 * 6 * 6 * 6 * 6 * 6 {
		m, p := New(), plain(nil)
		for n, c := 0, code; n < 6; n, c = n+1, c/6 {
			at := times[c%3]
			if c%6 < 3 {
				m.Enter(at)
				p.enter(at)
			} else {
				leaves(t, m, at, p.leave(at))
			}
			holds(t, m, p, 0, 1, 3, 5, 7)
		}
	}
}

// Promise 17.1: long runs, with few times and with many, in calls that go up to many times and down again.
func TestRuns(t *testing.T) {
	for run := range 60 {
		d := draws(run)
		m, p := New(), plain(nil)
		span := []int{2, 10, 300}[run%3]
		for step := range 1500 {
			at := uint64(d.below(span))
			if run%2 == 1 {
				at = math.MaxUint64 - at
			}
			enters := 6
			if step%500 > 250 {
				enters = 3
			}
			if d.below(9) < enters {
				m.Enter(at)
				p.enter(at)
			} else {
				leaves(t, m, at, p.leave(at))
			}
			holds(t, m, p, at, at+1, d.next(), math.MaxUint64)
		}
		for _, at := range p.all() {
			leaves(t, m, at, true)
		}
		holds(t, m, nil, 0, 5, math.MaxUint64)
	}
}

// Promise 17.1: as many transactions as there can be, ascending, descending and in drawn orders.
func TestManyTimes(t *testing.T) {
	d := draws(1)
	drawn := map[uint64]bool{}
	for i, time := range []func(n int) uint64{
		func(n int) uint64 { return uint64(n) },
		func(n int) uint64 { return last - uint64(n) },
		func(int) uint64 { return d.next() },
		func(n int) uint64 { return uint64(n * 777 % 2003) },
	} {
		m, p := New(), plain(nil)
		for n := range api.MaxTxns {
			at := time(n)
			drawn[at] = true
			m.Enter(at)
			p.enter(at)
		}
		holds(t, m, p, 0, 1000, last, math.MaxUint64)
		for n, at := range slices.Clone(p) {
			if n%3 > 0 {
				leaves(t, m, at, true)
				p.leave(at)
			}
		}
		holds(t, m, p, 0, 1000, last, math.MaxUint64)
		if i == 2 && len(drawn) < 5000 {
			t.Errorf("only %d times", len(drawn))
		}
	}
}

// Promise 17.1: one time, more often than any number of 16 bits.
func TestGreatCount(t *testing.T) {
	const n = 200000
	m := of(9)
	for range n {
		m.Enter(7)
	}
	if l := m.All(); m.Len() != n+1 || len(l) != n+1 || l[0] != 7 || l[n-1] != 7 || l[n] != 9 || m.Low(10) != 7 {
		t.Errorf("Len() = %d, %d times, Low(10) = %d", m.Len(), len(l), m.Low(10))
	}
	for range n {
		if !m.Leave(7) {
			t.Fatal("a time is gone too early")
		}
	}
	leaves(t, m, 7, false)
	holds(t, m, plain{9}, 8, 10)
}

// Promise 17.1: Garbage by hand.
func TestGarbage(t *testing.T) {
	txn, _ := word.Txn(5)
	for _, x := range []struct {
		begin, end, low uint64
		want            bool
	}{
		{1, 5, 5, true},
		{1, 5, 6, true},
		{1, 5, 4, false},
		{1, 1, 1, true},
		{1, 1, 0, false},
		{0, 0, 0, false},
		{0, 0, 9, false},
		{0, 0, math.MaxUint64, false},
		{9, 1, 5, true},
		{1, last, last, true},
		{1, last, last - 1, false},
		{1, last, math.MaxUint64, true},
		{1, last + 1, last + 1, false},
		{1, last + 1, math.MaxUint64, false},
		{1, word.Forever(), word.Forever(), false},
		{1, word.Forever(), math.MaxUint64, false},
		{1, txn, txn, false},
		{1, txn, math.MaxUint64, false},
		{1, 1 << 63, math.MaxUint64, false},
		{1, math.MaxUint64, math.MaxUint64, false},
		{txn, 5, 5, true},
		{word.Forever(), 5, 5, true},
		{last + 1, 5, 5, true},
		{math.MaxUint64, 5, 5, true},
	} {
		if got := Garbage(x.begin, x.end, x.low); got != x.want {
			t.Errorf("Garbage(%d, %d, %d) = %v", x.begin, x.end, x.low, got)
		}
	}
}

// Promise 17.1: Garbage of all words at the edges, against what package word reads of them.
func TestGarbageOfWords(t *testing.T) {
	yes := 0
	for _, end := range around() {
		s := word.Read(end)
		for _, low := range around() {
			want := s.Kind == api.WTime && s.N >= 1 && s.N <= low
			for _, begin := range around() {
				if got := Garbage(begin, end, low); got != want {
					t.Errorf("Garbage(%d, %d, %d) = %v", begin, end, low, got)
				}
				if want {
					yes++
				}
			}
		}
	}
	if yes == 0 {
		t.Error("nothing is garbage")
	}
}

// Promise 17.3: no call panics, whatever numbers it is given.
func TestNoCallPanics(t *testing.T) {
	defer func() {
		if r := recover(); r != nil {
			t.Errorf("panic: %v", r)
		}
	}()
	m := New()
	for range 3 {
		for _, at := range around() {
			m.Low(at)
			m.Leave(at)
			m.Enter(at)
			m.Enter(at)
			m.Leave(at)
			m.Leave(at - 1)
			m.Len()
			m.All()
			for _, end := range around() {
				Garbage(at, end, m.Low(end))
			}
		}
	}
}
