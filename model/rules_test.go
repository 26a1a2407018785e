package model

import (
	"fmt"
	"slices"
	"testing"

	"vinculum/api"
)

// The tests of this file say what the rules of 19.3 to 19.5 come to by hand, one case after the other.

// told is an answer in short: E, the value or the pairs, and how the transaction ended.
func told(r api.Result) string {
	return fmt.Sprint(int(r.E), r.Value, r.Pairs, r.Over, r.Reason)
}

const (
	fine      = "0 0 [] 0 0"
	none      = "11 0 [] 0 0"
	exists    = "12 0 [] 0 0"
	committed = "0 0 [] 3 0"
	asked     = "0 0 [] 4 1"
	conflict  = "14 0 [] 4 2"
	invalid   = "14 0 [] 4 3"
	full      = "14 0 [] 4 5"
	over      = "14 0 [] 4 6"
)

// call is an operation of a session, or a begin at a level, and what it is to answer.
type call struct {
	s     int
	level int
	o     api.Op
	want  string
}

func plays(t *testing.T, name string, b *both, l []call) {
	t.Helper()
	for i, c := range l {
		if c.level != 0 {
			b.begin(c.s, c.level)
			continue
		}
		if got := told(b.do(c.s, c.o)); got != c.want {
			t.Errorf("%s: call %d, %v of %d: %s, want %s", name, i, c.o, c.s, got, c.want)
		}
	}
	b.always()
}

// Promises 19.3, 19.4: what one transaction sees, writes and leaves.
func TestOneTransaction(t *testing.T) {
	b := start(t, 9, 1000)
	plays(t, "one", b, []call{
		{0, 3, api.Op{}, ""},
		{0, 0, get(5), none},
		{0, 0, insert(5, 7), fine},
		{0, 0, insert(5, 8), exists},
		{0, 0, get(5), "0 7 [] 0 0"},
		{0, 0, update(5, 65535), fine},
		{0, 0, update(6, 9), none},
		{0, 0, remove(6), none},
		{0, 0, insert(0, 0), fine},
		{0, 0, get(0), fine},
		{0, 0, scan(0, 63), "0 0 [{0 0} {5 65535}] 0 0"},
		{0, 0, scan(1, 4), fine},
		{0, 0, remove(5), fine},
		{0, 0, commit(), committed},
	})
	plays(t, "another", b, []call{
		{0, 1, api.Op{}, ""},
		{0, 0, remove(5), none},
		{0, 0, insert(63, 1), fine},
		{0, 0, remove(0), fine},
		{0, 0, get(0), none},
		{0, 0, scan(0, 63), "0 0 [{63 1}] 0 0"},
		{0, 0, abort(), asked},
	})
	if l := b.m.Pairs(b.m.Now()); !slices.Equal(l, []api.Pair{{Key: 0, Value: 0}}) || b.m.Used() != 3 || b.m.Now() != 3 {
		t.Errorf("%v are left in %d slots at %d", l, b.m.Used(), b.m.Now())
	}
}

// Promise 19.3: a transaction sees what had committed by its begin, and what it wrote itself; not what others wrote since.
func TestWhatIsSeen(t *testing.T) {
	b := start(t, 19, 1000)
	b.whole(0, 1, insert(1, 10), insert(2, 20), insert(3, 30))
	plays(t, "seen", b, []call{
		{1, 1, api.Op{}, ""},
		{2, 1, api.Op{}, ""},
		{2, 0, update(1, 11), fine},
		{2, 0, remove(2), fine},
		{2, 0, insert(4, 41), fine},
		{1, 0, scan(0, 63), "0 0 [{1 10} {2 20} {3 30}] 0 0"},
		{2, 0, scan(0, 63), "0 0 [{1 11} {3 30} {4 41}] 0 0"},
		{3, 1, api.Op{}, ""},
		{2, 0, commit(), committed},
		{1, 0, get(1), "0 10 [] 0 0"},
		{1, 0, get(2), "0 20 [] 0 0"},
		{1, 0, get(4), none},
		{1, 0, update(3, 31), fine},
		{1, 0, scan(1, 3), "0 0 [{1 10} {2 20} {3 31}] 0 0"},
		{3, 0, scan(0, 63), "0 0 [{1 10} {2 20} {3 30}] 0 0"},
		{4, 1, api.Op{}, ""},
		{4, 0, scan(0, 63), "0 0 [{1 11} {3 30} {4 41}] 0 0"},
		{1, 0, commit(), committed},
		{3, 0, get(3), "0 30 [] 0 0"},
		{4, 0, get(3), "0 30 [] 0 0"},
		{5, 1, api.Op{}, ""},
		{5, 0, scan(0, 63), "0 0 [{1 11} {3 31} {4 41}] 0 0"},
	})
}

// Promise 19.3: RConflict, by what another transaction has done to the key, and how it has ended since.
func TestConflicts(t *testing.T) {
	for i, x := range []struct {
		other              []api.Op
		mine               api.Op
		active, good, late string
	}{
		{[]api.Op{update(5, 2)}, update(5, 3), conflict, conflict, fine},
		{[]api.Op{update(5, 2)}, remove(5), conflict, conflict, fine},
		{[]api.Op{update(5, 2)}, insert(5, 3), exists, exists, exists},
		{[]api.Op{remove(5)}, update(5, 3), conflict, conflict, none},
		{[]api.Op{remove(5)}, remove(5), conflict, conflict, none},
		{[]api.Op{remove(5)}, insert(5, 3), exists, exists, fine},
		{[]api.Op{remove(5), insert(5, 2)}, update(5, 3), conflict, conflict, fine},
		{[]api.Op{update(5, 2), remove(5)}, remove(5), conflict, conflict, none},
		{[]api.Op{insert(6, 2)}, insert(6, 3), conflict, conflict, exists},
		{[]api.Op{insert(6, 2)}, update(6, 3), none, none, fine},
		{[]api.Op{insert(6, 2)}, remove(6), none, none, fine},
		{[]api.Op{insert(6, 2), remove(6)}, insert(6, 3), conflict, conflict, fine},
		{[]api.Op{insert(6, 2), remove(6)}, remove(6), none, none, none},
		{[]api.Op{insert(6, 2)}, insert(7, 3), fine, fine, fine},
		{[]api.Op{update(6, 2), insert(5, 3), remove(6)}, update(5, 3), fine, fine, fine},
		{[]api.Op{get(5), scan(0, 63)}, update(5, 3), fine, fine, fine},
	} {
		for level := 1; level <= 3; level++ {
			for way := range 5 {
				b := start(t, 19, 1000)
				b.whole(0, 1, insert(5, 1))
				if way < 3 {
					b.begin(2, level)
				}
				b.begin(1, 1)
				for _, o := range x.other {
					b.do(1, o)
				}
				if way == 4 {
					b.begin(2, level)
				}
				want := x.active
				switch way {
				case 1, 4:
					b.do(1, commit())
					want = x.good
				case 2:
					b.do(1, abort())
					want = aborted(x.mine)
				case 3:
					b.do(1, commit())
					b.begin(2, level)
					want = x.late
				}
				if got := told(b.do(2, x.mine)); got != want {
					t.Errorf("case %d, way %d: %s, want %s", i, way, got, want)
				}
				b.do(2, commit())
				b.collect()
				b.always()
			}
		}
	}
}

// aborted is what a write answers if what others wrote was aborted, so that key 5 alone is there.
func aborted(o api.Op) string {
	switch {
	case o.Kind == api.OInsert && o.Key == 5:
		return exists
	case o.Kind != api.OInsert && o.Key != 5:
		return none
	}
	return fine
}

// Promise 19.3: a conflict comes ahead of a lack of slots, an error of the operation ahead of both; who deletes needs no slot, and who has made a version none for it.
func TestFull(t *testing.T) {
	b := start(t, 3, 1000)
	b.whole(0, 1, insert(1, 1), insert(2, 2))
	plays(t, "full", b, []call{
		{0, 1, api.Op{}, ""},
		{1, 1, api.Op{}, ""},
		{2, 1, api.Op{}, ""},
		{3, 1, api.Op{}, ""},
		{4, 1, api.Op{}, ""},
		{0, 0, insert(3, 3), fine},
		{1, 0, insert(3, 4), conflict},
		{2, 0, insert(1, 4), exists},
		{2, 0, update(3, 4), none},
		{2, 0, update(1, 4), full},
		{3, 0, remove(1), fine},
		{3, 0, get(1), none},
		{3, 0, insert(1, 4), full},
		{4, 0, remove(1), fine},
		{4, 0, insert(4, 1), full},
		{0, 0, update(3, 5), fine},
		{0, 0, remove(3), fine},
		{0, 0, insert(3, 6), fine},
		{0, 0, remove(3), fine},
		{0, 0, insert(4, 6), full},
		{0, 1, api.Op{}, ""},
		{0, 0, insert(4, 6), full},
	})
	b.collect()
	if b.m.Used() != 2 {
		t.Errorf("%d slots are used", b.m.Used())
	}
	b.whole(0, 1, insert(4, 6))
	b.always()
}

// Promise 19.4: for each level the reads that it examines at the end, and what others may do to the key meanwhile.
func TestLevels(t *testing.T) {
	changes := [][]api.Op{{update(5, 2)}, {remove(5)}, {remove(5), insert(5, 1)}, {update(5, 1)}, {insert(6, 2)}, {insert(6, 2), remove(6)}, {insert(7, 2)}, {get(5)}, nil}
	const all = "ccccccccc"
	for i, x := range []struct {
		read  []api.Op
		wants [3]string
	}{
		{[]api.Op{get(5)}, [3]string{all, "iiiiccccc", "iiiiccccc"}},
		{[]api.Op{get(6)}, [3]string{all, all, "ccccicccc"}},
		{[]api.Op{scan(5, 5)}, [3]string{all, all, "iiiiccccc"}},
		{[]api.Op{scan(0, 63)}, [3]string{all, all, "iiiiicicc"}},
		{[]api.Op{scan(6, 7)}, [3]string{all, all, "ccccicicc"}},
		{[]api.Op{scan(0, 4), scan(8, 63)}, [3]string{all, all, all}},
		{[]api.Op{insert(5, 9)}, [3]string{all, all, "iiiiccccc"}},
		{[]api.Op{update(6, 9)}, [3]string{all, all, "ccccicccc"}},
		{[]api.Op{remove(6)}, [3]string{all, all, "ccccicccc"}},
		{[]api.Op{get(5), get(6), get(5)}, [3]string{all, "iiiiccccc", "iiiiicccc"}},
		{nil, [3]string{all, all, all}},
	} {
		for level := 1; level <= 3; level++ {
			for k, change := range changes {
				b := start(t, 19, 1000)
				b.whole(0, 1, insert(5, 1))
				b.begin(1, level)
				for _, o := range x.read {
					b.do(1, o)
				}
				b.whole(2, 1, change...)
				want := committed
				if x.wants[level-1][k] == 'i' {
					want = invalid
				}
				if got := told(b.do(1, commit())); got != want {
					t.Errorf("case %d at level %d, change %d: %s, want %s", i, level, k, got, want)
				}
				if b.m.Now() != 6 {
					t.Errorf("the clock is %d", b.m.Now())
				}
			}
		}
	}
}

// Promise 19.4: what was read is held against the end alone, whatever was there between, and no matter when it was read.
func TestValidationLooksAtBothEnds(t *testing.T) {
	b := start(t, 19, 1000)
	b.begin(1, 3)
	b.do(1, get(6))
	b.whole(2, 1, insert(6, 2))
	b.whole(2, 1, remove(6))
	b.do(1, get(6))
	if got := told(b.do(1, commit())); got != committed {
		t.Errorf("there was none and is none: %s", got)
	}
	b.whole(2, 1, insert(6, 2))
	b.begin(1, 2)
	b.whole(2, 1, remove(6))
	b.whole(2, 1, insert(6, 2))
	b.do(1, get(6))
	b.collect()
	if got := told(b.do(1, commit())); got != invalid {
		t.Errorf("another version with the same value: %s", got)
	}
	b.always()
}

// Promise 19.4: what a transaction has written itself holds at its end, however it has read it.
func TestOwnWritesHold(t *testing.T) {
	for level := 1; level <= 3; level++ {
		for i, l := range [][]api.Op{
			{insert(6, 1), get(6), scan(6, 63), insert(6, 2)},
			{get(6), update(6, 1), insert(6, 1), get(6), remove(6), get(6), remove(6), scan(6, 6)},
			{get(5), update(5, 2), get(5), remove(5), get(5), update(5, 3), insert(5, 4), scan(0, 5)},
			{scan(0, 5), remove(5), insert(5, 7), get(5)},
		} {
			b := start(t, 19, 1000)
			b.whole(0, 1, insert(5, 1))
			b.begin(1, level)
			for _, o := range l {
				b.do(1, o)
			}
			b.whole(2, 1, update(5, 3))
			b.whole(2, 1, insert(6, 3))
			if got := told(b.do(1, commit())); got != committed {
				t.Errorf("case %d at level %d: %s", i, level, got)
			}
			b.always()
		}
	}
}

// Promise 19.4: a commit at the limit aborts, ahead of any examination, and one that is invalid has drawn a time.
func TestOver(t *testing.T) {
	for limit := uint64(5); limit <= 7; limit++ {
		b := start(t, 19, limit)
		b.whole(0, 1, insert(5, 1))
		b.begin(1, 3)
		b.do(1, get(5))
		b.do(1, insert(6, 2))
		b.whole(2, 1, update(5, 2))
		want := invalid
		if limit == 5 {
			want = over
		}
		if got := told(b.do(1, commit())); got != want || b.m.Now() != min(limit, 6) {
			t.Errorf("limit %d: %s at %d", limit, got, b.m.Now())
		}
		b.begin(3, 1)
		if got := told(b.do(3, commit())); limit == 7 && got != over {
			t.Errorf("the last time: %s", got)
		}
		b.collect()
		b.always()
	}
}

// Promise 19.5: a version is collected once it has ended for the oldest active transaction, or if it was aborted.
func TestCollect(t *testing.T) {
	b := start(t, 19, 1000)
	b.whole(0, 1, insert(5, 1), insert(6, 1), remove(6), insert(7, 1))
	b.begin(1, 1)
	b.begin(2, 1)
	b.do(2, update(5, 2))
	b.do(2, insert(8, 1))
	b.do(2, remove(8))
	collects(t, b, 1, 4)
	b.do(2, commit())
	b.begin(3, 1)
	collects(t, b, 0, 4)
	b.do(1, abort())
	collects(t, b, 2, 2)
	b.do(3, remove(7))
	b.do(3, insert(9, 1))
	b.begin(4, 1)
	b.do(3, commit())
	collects(t, b, 0, 3)
	b.begin(5, 1)
	b.do(5, insert(10, 1))
	b.do(5, update(9, 2))
	collects(t, b, 0, 5)
	b.do(5, abort())
	collects(t, b, 2, 3)
	b.do(4, commit())
	collects(t, b, 1, 2)
	collects(t, b, 0, 2)
	if l := b.m.Pairs(1 << 40); !slices.Equal(l, []api.Pair{{Key: 5, Value: 2}, {Key: 9, Value: 1}}) {
		t.Errorf("%v are left", l)
	}
}

func collects(t *testing.T, b *both, n, used int) {
	t.Helper()
	b.p.Collect()
	if got := b.m.Collect(); got != n || b.m.Used() != used {
		t.Errorf("Collect() = %d, and %d slots are used, want %d and %d", got, b.m.Used(), n, used)
	}
	b.same()
	b.always()
}
