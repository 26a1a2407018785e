package model

import (
	"math"
	"slices"
	"testing"

	"vinculum/api"
)

// Promise 19.4: the example of the chapter.
func TestExample(t *testing.T) {
	m, e := New(api.Conf{Slots: 1, Limit: 2})
	if e != api.OK {
		t.Fatal(e)
	}
	if id, e := m.Begin(0, api.LSerial); id != 1 || e != api.OK {
		t.Errorf("Begin(0, LSerial) = %d, %d", id, e)
	}
	if r, e := m.Do(0, api.Op{Kind: api.OInsert, Key: 5, Value: 7}); !sameResult(r, api.Result{}) || e != api.OK {
		t.Errorf("OInsert 5 7: %v, %d", r, e)
	}
	if r, e := m.Do(0, api.Op{Kind: api.OCommit}); !sameResult(r, api.Result{Over: api.SCommitted}) || e != api.OK {
		t.Errorf("OCommit: %v, %d", r, e)
	}
	if l := m.Pairs(9); !slices.Equal(l, []api.Pair{{Key: 5, Value: 7}}) {
		t.Errorf("Pairs(9) = %v", l)
	}
}

// Promise 19.1: New takes Slots of 1 to 256 and a Limit of 1 to 2^40, and a new Model has a clock of 0 and nothing else.
func TestConfs(t *testing.T) {
	limits := []uint64{0, 1, 2, 1<<40 - 1, 1 << 40, 1<<40 + 1, 1 << 63, math.MaxUint64}
	made := 0
	for _, slots := range append(edges(), 2, 100) {
		for _, limit := range limits {
			if slots >= 1 && slots <= 256 && limit >= 1 && limit <= 1<<40 {
				b := start(t, slots, limit)
				b.always()
				made++
				continue
			}
			if m, e := New(api.Conf{Slots: slots, Limit: limit}); m != nil || e != 1 {
				t.Errorf("New(%d, %d) = %v, %d", slots, limit, m, e)
			}
		}
	}
	if made < 4*9 {
		t.Errorf("%d Models were made", made)
	}
}

// Promise 19.1: Begin of every session and level at the edges, where there is a transaction and where there is none.
func TestBegins(t *testing.T) {
	for _, s := range edges() {
		for _, level := range append(edges(), 1, 2) {
			b := start(t, 9, 1000)
			b.begin(s, level)
			b.begin(s, level)
			b.begin(s, 3)
			b.begin(3, level)
			b.begin(7, 1)
			b.do(3, abort())
			b.begin(s, 2)
			b.begin(3, level)
		}
	}
}

// Promise 19.1: eight sessions, each with one transaction at a time, whose ids go on whatever becomes of the former ones.
func TestSessions(t *testing.T) {
	b := start(t, 9, 1000)
	for round := range 5 {
		for i := range 8 {
			b.begin((i*3+round)%8, 1+(i+round)%3)
		}
		for i := range 8 {
			b.begin(i, 1)
		}
		for i := range 8 {
			if i%2 == 0 {
				b.do(i, commit())
			} else {
				b.do(7-i+1, abort())
			}
			b.begin(i-1, 2)
		}
		for i := range 8 {
			b.do(i, commit())
		}
	}
	if n := len(b.p.deals); n < 50 {
		t.Errorf("%d transactions", n)
	}
}

// refused holds what Begin answers.
func refused(t *testing.T, m *Model, s, level int, want api.Errno) {
	t.Helper()
	if id, e := m.Begin(s, level); id != 0 || e != want {
		t.Errorf("Begin(%d, %d) = %d, %d, want %d", s, level, id, e, want)
	}
}

// Promise 19.1: 2,000 transactions can begin, and the errors of Begin come in their order: where two of them apply, and where all do.
func TestErrorsOfBegin(t *testing.T) {
	for _, limit := range []uint64{1999, 2000, 2001, 3999, 4000, 1 << 40} {
		m, _ := New(api.Conf{Slots: 1, Limit: limit})
		for id := 1; id <= 2000 && uint64(id) <= limit; id++ {
			if got, e := m.Begin(3, 1+id%3); got != id || e != 0 {
				t.Fatalf("Begin = %d, %d for %d", got, e, id)
			}
			refused(t, m, 3, 4, 1)
			refused(t, m, 3, 1, 9)
			if id < 2000 && uint64(id) < limit {
				m.Do(3, abort())
			}
		}
		last := api.Errno(65)
		if limit < 2000 {
			last = 16
		}
		now := m.Now()
		refused(t, m, 3, 0, 1)
		refused(t, m, -1, 1, 1)
		refused(t, m, 3, 1, 9)
		refused(t, m, 4, 1, last)
		refused(t, m, 4, 4, 1)
		m.Do(3, abort())
		refused(t, m, 3, 1, last)
		refused(t, m, 8, 3, 1)
		if m.Now() != now || len(m.Live()) != 0 {
			t.Errorf("the clock is %d, and %v are live", m.Now(), m.Live())
		}
	}
}

// Promise 19.1: the clock comes up to its limit and not beyond it, by begins and by commits.
func TestLimits(t *testing.T) {
	for limit := uint64(1); limit < 12; limit++ {
		for first := range 6 {
			b := start(t, 9, limit)
			for i := range first {
				b.begin(i, 1+i%3)
				b.do(i, insert(i, i))
			}
			for i := range 8 {
				b.do(i, commit())
				b.begin(i, 3)
				b.begin(7-i, 3)
				b.do(i, get(1))
			}
			for i := range 8 {
				b.do(i, commit())
			}
			b.always()
			if b.m.Now() != limit {
				t.Errorf("Now() = %d of %d", b.m.Now(), limit)
			}
		}
	}
}

// Promise 19.2: every operation with fields at the edges. Those that are none of the seven change nothing; of the others each is the first one of a transaction.
func TestEveryOperation(t *testing.T) {
	fields := append(edges(), 1, 2, 5)
	none := start(t, 9, 1000)
	none.begin(0, 3)
	can := 0
	for kind := -2; kind <= 10; kind++ {
		for _, k := range fields {
			for _, hi := range fields {
				for _, v := range fields {
					o := api.Op{Kind: kind, Key: k, Hi: hi, Value: v}
					if possible(o) {
						isOne(t, o)
						can++
					} else if r, e := none.m.Do(0, o); e != 9 || !sameResult(r, api.Result{}) {
						t.Errorf("Do(0, %v) = %v, %d", o, r, e)
					}
				}
			}
		}
	}
	for _, kind := range edges() {
		none.do(0, api.Op{Kind: kind, Hi: -1})
	}
	none.same()
	if can < 300 {
		t.Errorf("%d operations are possible", can)
	}
}

// isOne holds what an operation answers in a session with a transaction, in one without, and in none.
func isOne(t *testing.T, o api.Op) {
	t.Helper()
	b := start(t, 9, 1000)
	b.begin(0, 3)
	b.do(1, o)
	b.do(-1, o)
	b.do(8, o)
	b.do(0, o)
	b.do(0, commit())
	b.exists(b.p.clock)
}

// Promise 19.2: the errors of Do come in their order, and what is wrong with a call changes nothing.
func TestErrorsOfDo(t *testing.T) {
	wrong := []api.Op{{}, {Kind: 8}, {Kind: 1, Key: 64}, {Kind: 5, Key: 4, Hi: 3}, {Kind: 6, Key: 1}, {Kind: 7, Value: 1}}
	for _, s := range edges() {
		b := start(t, 9, 1000)
		b.begin(2, 1)
		b.begin(3, 3)
		for i := range 13 {
			b.do(3, get(i))
		}
		for _, o := range append(wrong, get(1), insert(1, 1), commit(), abort(), get(1), scan(1, 2)) {
			b.do(s, o)
			b.do(3, wrong[0])
		}
		for _, o := range append(wrong, get(2), commit()) {
			b.do(3, o)
		}
		b.always()
	}
}

// Promise 19.2: a transaction executes twelve operations of each kind, also where these have an error, and may then still commit or abort.
func TestTwelve(t *testing.T) {
	kinds := []func(int) api.Op{
		func(i int) api.Op { return get(i % 3) },
		func(i int) api.Op { return insert(i%5, i) },
		func(i int) api.Op { return update(i%3, i) },
		func(i int) api.Op { return remove(i % 4) },
		func(i int) api.Op { return scan(i, 63-i) },
		func(i int) api.Op {
			return []api.Op{get(1), insert(i%7, 2), update(2, i), remove(i % 3), scan(0, 63)}[i%5]
		},
	}
	for _, kind := range kinds {
		for _, end := range []api.Op{commit(), abort()} {
			b := start(t, 99, 1000)
			b.whole(4, 1, insert(1, 1), insert(2, 2))
			b.begin(5, 3)
			for i := range 15 {
				b.do(5, kind(i))
				b.do(5, api.Op{Kind: 1, Hi: 1})
			}
			if n := b.m.Status(5).Ops; n != 12 {
				t.Errorf("%d operations were executed", n)
			}
			b.do(5, end)
			b.begin(5, 1)
			b.do(5, kind(0))
			b.always()
		}
	}
}

// Promises 19.3, 19.5: a slot for each key, and for each number of slots the first write that finds none.
func TestSlots(t *testing.T) {
	for _, slots := range []int{1, 2, 3, 11, 12, 13, 63, 64, 65, 255, 256} {
		b := start(t, slots, 1<<40)
		n := 0
		for n < slots {
			b.begin(0, 1)
			for i := 0; i < 12 && n < slots; i++ {
				o := update(n%64, n)
				if n < 64 {
					o.Kind = api.OInsert
				}
				b.do(0, o)
				n++
			}
			b.do(0, commit())
		}
		if b.m.Used() != slots {
			t.Errorf("%d of %d slots are used", b.m.Used(), slots)
		}
		b.begin(0, 1)
		b.begin(1, 1)
		b.do(0, get(0))
		if r := b.do(0, update(0, 5)); r.Reason != api.RFull {
			t.Errorf("a write with %d slots used: %v", slots, r)
		}
		b.do(1, remove(0))
		b.do(1, insert(0, 6))
		b.do(1, commit())
		b.collect()
		b.collect()
		b.exists(b.m.Now())
	}
}

// Promise 19.3: a version that a transaction has made is its own however often it deletes and inserts the key, and the one that it has found there is not.
func TestOwnVersions(t *testing.T) {
	for slots := 1; slots <= 4; slots++ {
		for n := range 5 * 5 * 5 * 5 * 5 {
			b := start(t, slots, 1000)
			b.whole(0, 1, insert(5, 1))
			b.begin(0, 3)
			b.begin(1, 1)
			for i := range 5 {
				b.do(0, []api.Op{insert(5, 2+i), update(5, 2+i), remove(5), insert(6, 2+i), remove(6)}[n%5])
				n /= 5
			}
			b.do(0, scan(0, 63))
			b.do(0, commit())
			b.collect()
			b.do(1, scan(0, 63))
			b.do(1, abort())
			b.collect()
			b.always()
		}
	}
}

// Promise 19.5: what exists at a time is what had committed by then, up to what was collected.
func TestPairsOfAllTimes(t *testing.T) {
	b := start(t, 256, 1000)
	for i := range 20 {
		b.whole(i%8, 1+i%3, insert(i*3, i), insert(i*3+1, i), update(max(i*3-9, 0), 100+i), remove(max(i*3-5, 0)))
		b.begin(i%8, 1)
		b.do(i%8, insert(63-i, 7))
		b.do(i%8, abort())
	}
	b.always()
	b.begin(3, 1)
	b.whole(2, 1, update(0, 8), remove(6))
	b.collect()
	b.always()
	b.do(3, abort())
	b.collect()
	b.always()
}

// Every answer is new memory: what a caller does with it changes nothing.
func TestAnswersApart(t *testing.T) {
	b := start(t, 9, 1000)
	b.whole(0, 1, insert(1, 1), insert(2, 2), insert(5, 5))
	b.begin(4, 3)
	b.begin(6, 3)
	r, _ := b.m.Do(4, scan(0, 63))
	again, _ := b.m.Do(6, scan(0, 63))
	b.p.Do(4, scan(0, 63))
	b.p.Do(6, scan(0, 63))
	pairs, live := b.m.Pairs(9), b.m.Live()
	for _, l := range [][]api.Pair{r.Pairs, pairs} {
		l = l[:cap(l)]
		for i := range l {
			l[i] = api.Pair{Key: 9, Value: 9}
		}
	}
	live = live[:cap(live)]
	for i := range live {
		live[i] = 7
	}
	if !slices.Equal(again.Pairs, b.p.pairs(9)) {
		t.Errorf("a scan has become %v", again.Pairs)
	}
	b.do(4, scan(0, 63))
	b.always()
}

// Each of New's Models is one of its own.
func TestModelsApart(t *testing.T) {
	a, b := start(t, 9, 1000), start(t, 2, 5)
	a.whole(0, 1, insert(1, 1))
	b.same()
	b.begin(0, 3)
	b.do(0, insert(1, 2))
	a.begin(0, 2)
	a.do(0, get(1))
	b.do(0, commit())
	a.do(0, commit())
	a.always()
	b.always()
}

// Ways: a fate is published once, and what comes later changes nothing.
func TestFateIsPublishedOnce(t *testing.T) {
	for _, first := range []int{api.SCommitted, api.SAborted} {
		for _, second := range []int{api.SCommitted, api.SAborted} {
			f := newTxn(1, api.LSnap, 3).fate
			if f.state != api.SActive || f.by(math.MaxUint64) || !f.since(0) || !f.since(math.MaxUint64) {
				t.Errorf("an active one has ended by %d", f.state)
			}
			f.publish(first, 7)
			f.publish(second, 5)
			good := first == api.SCommitted
			if f.state != first || f.end != 7 || f.by(6) || f.by(7) != good || f.since(6) != good || f.since(7) {
				t.Errorf("%d and then %d has become %d, %d", first, second, f.state, f.end)
			}
		}
	}
	var none *fate
	if none.by(math.MaxUint64) || none.since(0) {
		t.Error("nobody has ended something")
	}
}
