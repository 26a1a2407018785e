package tale

import (
	"math"
	"slices"
	"testing"

	"vinculum/api"
)

// holds compares all that is told of a list with what the chapter says, and reports whether the list is possible.
func holds(t *testing.T, l []api.Event) bool {
	t.Helper()
	before := copied(l)
	wantOk, wantAt := plainOk(l)
	if ok, at := Ok(l); ok != wantOk || at != wantAt {
		t.Errorf("Ok = %v, %d, want %v, %d: %v", ok, at, wantOk, wantAt, l)
	}
	var want []api.Deal
	if wantOk {
		want = plainDeals(l)
	}
	if d := Deals(l); !sameDeals(d, want) {
		t.Errorf("Deals = %v, want %v: %v", d, want, l)
	}
	if !sameEvents(l, before) {
		t.Errorf("%v has become %v", before, l)
	}
	return wantOk
}

// Promise 20.1: histories that are possible, and the first event that is not.
func TestOk(t *testing.T) {
	for _, x := range []struct {
		name string
		l    []api.Event
		at   int
	}{
		{"no events", nil, -1},
		{"a begin", []api.Event{begin(1, 1, 1)}, -1},
		{"a whole transaction", []api.Event{begin(1, 1, 1), get(1), get(1), prep(1, 2), done(1)}, -1},
		{"times with gaps", []api.Event{begin(1, 5, 1), begin(2, 1<<40, 1), prep(1, 1<<63), done(1), begin(3, math.MaxUint64, 1)}, -1},
		{"the first is 2", []api.Event{begin(2, 1, 1)}, 0},
		{"the first is 0", []api.Event{begin(0, 1, 1)}, 0},
		{"a number is left out", []api.Event{begin(1, 1, 1), begin(3, 2, 1)}, 1},
		{"a number comes again", []api.Event{begin(1, 1, 1), begin(1, 2, 1)}, 1},
		{"a number comes again after its end", []api.Event{begin(1, 1, 1), gone(1, 1), begin(1, 2, 1)}, 2},
		{"an ended one counts", []api.Event{begin(1, 1, 1), gone(1, 1), begin(2, 2, 1)}, -1},
		{"a begin at 0", []api.Event{begin(1, 0, 1)}, 0},
		{"a begin at another begin", []api.Event{begin(1, 5, 1), begin(2, 5, 1)}, 1},
		{"a begin ahead of another begin", []api.Event{begin(1, 5, 1), begin(2, 4, 1)}, 1},
		{"a begin at an end", []api.Event{begin(1, 1, 1), prep(1, 6), begin(2, 6, 1)}, 2},
		{"a begin ahead of an end that came to nothing", []api.Event{begin(1, 1, 1), prep(1, 6), gone(1, 1), begin(2, 5, 1)}, 3},
		{"a begin ahead of one that came to nothing", []api.Event{begin(1, 6, 1), gone(1, 1), begin(2, 5, 1)}, 2},
		{"an operation of nobody", []api.Event{get(1)}, 0},
		{"an operation ahead of the begin", []api.Event{begin(1, 1, 1), get(2), begin(2, 2, 1)}, 1},
		{"an operation behind the end time", []api.Event{begin(1, 1, 1), prep(1, 2), get(1)}, 2},
		{"an operation behind a commit", []api.Event{begin(1, 1, 1), prep(1, 2), done(1), get(1)}, 3},
		{"an operation behind an abort", []api.Event{begin(1, 1, 1), gone(1, 1), get(1)}, 2},
		{"an end time of nobody", []api.Event{begin(1, 1, 1), prep(2, 2)}, 1},
		{"two end times", []api.Event{begin(1, 1, 1), prep(1, 2), prep(1, 3)}, 2},
		{"an end time behind an abort", []api.Event{begin(1, 1, 1), gone(1, 1), prep(1, 2)}, 2},
		{"an end time at the begin", []api.Event{begin(1, 4, 1), prep(1, 4)}, 1},
		{"an end time at another begin", []api.Event{begin(1, 1, 1), begin(2, 4, 1), prep(1, 4)}, 2},
		{"an end time ahead of another one", []api.Event{begin(1, 1, 1), begin(2, 2, 1), prep(2, 9), prep(1, 8)}, 3},
		{"an end time at another one", []api.Event{begin(1, 1, 1), begin(2, 2, 1), prep(2, 9), prep(1, 9)}, 3},
		{"an end time that is 0", []api.Event{begin(1, 1, 1), prep(1, 0)}, 1},
		{"a commit without an end time", []api.Event{begin(1, 1, 1), done(1)}, 1},
		{"a commit of nobody", []api.Event{done(1)}, 0},
		{"two commits", []api.Event{begin(1, 1, 1), prep(1, 2), done(1), done(1)}, 3},
		{"a commit behind an abort", []api.Event{begin(1, 1, 1), prep(1, 2), gone(1, 1), done(1)}, 3},
		{"an abort of nobody", []api.Event{gone(1, 1)}, 0},
		{"an abort with an end time", []api.Event{begin(1, 1, 1), prep(1, 2), gone(1, 1)}, -1},
		{"two aborts", []api.Event{begin(1, 1, 1), gone(1, 1), gone(1, 1)}, 2},
		{"an abort behind a commit", []api.Event{begin(1, 1, 1), prep(1, 2), done(1), gone(1, 1)}, 3},
		{"the first fault counts", []api.Event{begin(1, 1, 1), done(1), get(2), done(1)}, 1},
	} {
		if ok, at := Ok(x.l); ok != (x.at < 0) || at != x.at {
			t.Errorf("%s: Ok = %v, %d, want %d", x.name, ok, at, x.at)
		}
		holds(t, x.l)
	}
}

// Promise 20.1: what a bond may lead to, and what it asks of a commit.
func TestOkBonds(t *testing.T) {
	two := []api.Event{begin(1, 1, 1), begin(2, 2, 1)}
	for _, x := range []struct {
		name string
		l    []api.Event
		at   int
	}{
		{"to an older one", []api.Event{bonded(2, 1)}, -1},
		{"to a younger one", []api.Event{bonded(1, 2)}, -1},
		{"to itself", []api.Event{bonded(2, 2)}, 2},
		{"to nobody", []api.Event{bonded(2, 0)}, 2},
		{"to one that has not begun", []api.Event{bonded(2, 3), begin(3, 3, 1)}, 2},
		{"of one that has not begun", []api.Event{bonded(3, 1), begin(3, 3, 1)}, 2},
		{"of nobody", []api.Event{bonded(0, 1)}, 2},
		{"to one that is committed", []api.Event{prep(1, 3), done(1), bonded(2, 1), prep(2, 4), done(2)}, -1},
		{"to one that is aborted", []api.Event{gone(1, 1), bonded(2, 1)}, 3},
		{"of one that is aborted", []api.Event{gone(2, 1), bonded(2, 1)}, 3},
		{"of one that is committed", []api.Event{prep(2, 3), done(2), bonded(2, 1)}, 4},
		{"with an end time to one without", []api.Event{prep(2, 3), bonded(2, 1)}, -1},
		{"without an end time to one with it", []api.Event{prep(1, 3), bonded(2, 1)}, -1},
		{"to a smaller end time", []api.Event{prep(1, 3), prep(2, 4), bonded(2, 1)}, -1},
		{"to a greater end time", []api.Event{prep(1, 3), prep(2, 4), bonded(1, 2)}, 4},
		{"to an end time that is greater afterwards", []api.Event{bonded(2, 1), prep(2, 3), prep(1, 4), done(1), done(2)}, -1},
		{"twice to the same", []api.Event{bonded(2, 1), bonded(2, 1), prep(1, 3), prep(2, 4), done(1), done(2)}, -1},
		{"to one another", []api.Event{bonded(2, 1), bonded(1, 2), gone(1, 1), gone(2, 4)}, -1},
		{"a commit ahead of the other one", []api.Event{prep(1, 3), bonded(2, 1), prep(2, 4), done(2)}, 5},
		{"a commit behind the other one", []api.Event{prep(1, 3), bonded(2, 1), prep(2, 4), done(1), done(2)}, -1},
		{"a commit though the other one is aborted", []api.Event{prep(1, 3), bonded(2, 1), prep(2, 4), gone(1, 1), done(2)}, 6},
		{"an abort where the other one is aborted", []api.Event{prep(1, 3), bonded(2, 1), prep(2, 4), gone(1, 1), gone(2, 4)}, -1},
		{"an abort ahead of the other one", []api.Event{prep(1, 3), bonded(2, 1), gone(2, 1), done(1)}, -1},
		{"one of two bonds is left", []api.Event{begin(3, 3, 1), bonded(3, 1), bonded(3, 2), prep(1, 4), prep(3, 5), done(1), done(3)}, 8},
		{"the other one of two bonds is left", []api.Event{begin(3, 3, 1), bonded(3, 2), bonded(3, 1), prep(1, 4), prep(3, 5), done(1), done(3)}, 8},
		{"the bond is somebody else's", []api.Event{begin(3, 3, 1), bonded(3, 2), prep(1, 4), done(1)}, -1},
		{"a way of bonds is asked for one by one", []api.Event{begin(3, 3, 1), bonded(3, 2), bonded(2, 1), prep(2, 4), prep(3, 5), done(3)}, 7},
	} {
		l := slices.Concat(two, x.l)
		if ok, at := Ok(l); ok != (x.at < 0) || at != x.at {
			t.Errorf("%s: Ok = %v, %d, want %d", x.name, ok, at, x.at)
		}
		holds(t, l)
	}
}

// Promises 20.1, 20.4: kinds, transactions and numbers at the edges, where there are two transactions, one of them with an end time.
func TestOkEdges(t *testing.T) {
	from := append(edges(), 4, 5)
	numbers := []uint64{0, 1, 2, 3, 4, 5, 6, 7, 1 << 40, 1<<63 - 1, 1 << 63, 1<<63 + 1, math.MaxUint64 - 1, math.MaxUint64}
	start := []api.Event{begin(1, 2, 1), begin(2, 4, 3), prep(1, 6)}
	for _, kind := range from {
		for _, id := range from {
			for _, n := range numbers {
				l := append(slices.Clone(start), api.Event{Kind: kind, T: id, N: n})
				ok, at := Ok(l)
				if wantOk, wantAt := plainOk(l); ok != wantOk || at != wantAt {
					t.Errorf("Ok = %v, %d, want %v, %d: %v", ok, at, wantOk, wantAt, l)
				}
				if (kind < 1 || kind > 6) && (ok || at != 3) {
					t.Errorf("kind %d is possible", kind)
				}
			}
		}
	}
}

// Promise 20.1: fields that an event does not have do not matter, whatever they are.
func TestOkOtherFields(t *testing.T) {
	d := draws(1)
	l := []api.Event{begin(1, 1, 1), begin(2, 2, 1), get(1), prep(1, 3), bonded(2, 1), done(1), get(2), gone(2, 1)}
	for range 2000 {
		c := copied(l)
		for i, v := range c {
			o := anyEvent(&d, v.Kind, edges())
			o.T = v.T
			if v.Kind == 1 || v.Kind == 3 || v.Kind == 4 {
				o.N = v.N
			}
			c[i] = o
		}
		if !holds(t, c) {
			t.Fatalf("%v is not possible", c)
		}
		if b := Bonds(c); !slices.Equal(b, [][2]int{{2, 1}}) {
			t.Fatalf("Bonds = %v", b)
		}
	}
}

// Promises 20.1, 20.2: 20,000 events are a history, and one more is none, wherever it is not possible besides.
func TestMostEvents(t *testing.T) {
	l := []api.Event{begin(1, 1, 1)}
	for len(l) < 20000 {
		l = append(l, get(1))
	}
	if ok, at := Ok(l); !ok || at != -1 {
		t.Errorf("Ok of 20,000 events is %v, %d", ok, at)
	}
	if d := Deals(l); len(d) != 1 || len(d[0].Ops) != 19999 {
		t.Errorf("%d Deals of 20,000 events", len(d))
	}
	wrong := append(slices.Clone(l[:19999]), done(1))
	if ok, at := Ok(wrong); ok || at != 19999 {
		t.Errorf("Ok is %v, %d, want 19999", ok, at)
	}
	if d := Deals(wrong); d != nil {
		t.Errorf("%d Deals", len(d))
	}
	for _, more := range [][]api.Event{{get(1)}, {done(1)}, {get(1), get(1)}, l} {
		for _, first := range []api.Event{begin(1, 1, 1), begin(1, 0, 1)} {
			c := slices.Concat(l, more)
			c[0] = first
			if ok, at := Ok(c); ok || at != 20000 {
				t.Errorf("Ok of %d events is %v, %d", len(c), ok, at)
			}
			if d := Deals(c); d != nil {
				t.Errorf("%d Deals of %d events", len(d), len(c))
			}
		}
	}
}

// Promises 20.1, 20.4: as many transactions and as many bonds as there can be.
func TestManyTransactions(t *testing.T) {
	var l []api.Event
	for n := range 20000 {
		l = append(l, begin(n+1, uint64(n+1), 1))
	}
	if ok, at := Ok(l); !ok || at != -1 {
		t.Errorf("Ok of 20,000 begins is %v, %d", ok, at)
	}
	if d := Deals(l); len(d) != 20000 || d[19999].ID != 20000 || d[19999].Begin != 20000 {
		t.Errorf("%d Deals", len(d))
	}
	l = []api.Event{begin(1, 1, 1), begin(2, 2, 1), prep(1, 3), prep(2, 4)}
	for len(l) < 19998 {
		l = append(l, bonded(2, 1))
	}
	l = append(l, done(1), done(2))
	if ok, at := Ok(l); !ok || at != -1 || len(Bonds(l)) != 19994 {
		t.Errorf("Ok of %d bonds is %v, %d", len(Bonds(l)), ok, at)
	}
	l[19998] = gone(1, 1)
	if ok, at := Ok(l); ok || at != 19999 {
		t.Errorf("Ok is %v, %d", ok, at)
	}
}

// Promise 20.2: the Deals of transactions that ended well, badly and not at all, whatever order their events have.
func TestDeals(t *testing.T) {
	full := api.Result{E: 12, Value: 8, Over: 3, Reason: 4, Pairs: []api.Pair{{Key: 3, Value: 1}, {Key: 2, Value: 9}}}
	l := []api.Event{
		begin(1, 2, 1), begin(2, 4, -7), op(2, api.Op{Kind: 1, Key: 2, Hi: 3, Value: 4}, full), begin(3, 5, 1<<50), get(1),
		op(2, api.Op{Kind: 9}, api.Result{E: 11}), prep(2, 7), begin(4, 8, 2), get(1), gone(1, 2), prep(3, 9), begin(5, 10, 3), done(2), gone(3, 4), prep(5, 11),
	}
	want := []api.Deal{
		{ID: 1, Level: 1, State: 4, Begin: 2, Ops: []api.Call{{Op: api.Op{Kind: 1, Key: 5}, Result: api.Result{Value: 7}}, {Op: api.Op{Kind: 1, Key: 5}, Result: api.Result{Value: 7}}}},
		{ID: 2, Level: -7, State: 3, Begin: 4, End: 7, Ops: []api.Call{{Op: api.Op{Kind: 1, Key: 2, Hi: 3, Value: 4}, Result: full}, {Op: api.Op{Kind: 9}, Result: api.Result{E: 11}}}},
		{ID: 3, Level: 1 << 50, State: 4, Begin: 5, End: 9},
		{ID: 4, Level: 2, State: 1, Begin: 8},
		{ID: 5, Level: 3, State: 1, Begin: 10, End: 11},
	}
	if d := Deals(l); !sameDeals(d, want) {
		t.Errorf("Deals = %v", d)
	}
	for i := range l {
		if !holds(t, l[:i]) {
			t.Errorf("the first %d events are not possible", i)
		}
		if d := Deals(append(l[:i:i], api.Event{Kind: 7, T: 1})); d != nil {
			t.Errorf("Deals = %v", d)
		}
	}
}

// Rule 3: Deals are the caller's own: they share nothing with the events, nor with one another.
func TestDealsAreNew(t *testing.T) {
	shared := make([]api.Pair, 2, 9)
	r := api.Result{Pairs: shared}
	l := []api.Event{begin(1, 1, 1), begin(2, 2, 1), op(1, api.Op{}, r), op(2, api.Op{}, r), op(1, api.Op{}, r), op(2, api.Op{}, r)}
	d, again := Deals(l), Deals(l)
	n := 0
	for i := range d {
		for j := range d[i].Ops {
			p := d[i].Ops[j].Result.Pairs
			for k := range p[:cap(p)] {
				n++
				p[:cap(p)][k] = api.Pair{Key: n, Value: n}
			}
		}
		calls := d[i].Ops
		for j := len(calls); j < cap(calls); j++ {
			calls[:cap(calls)][j] = api.Call{Op: api.Op{Kind: 99}}
		}
	}
	if d[0].Ops[0].Result.Pairs[0].Key != 1 || d[0].Ops[1].Result.Pairs[1].Key == d[1].Ops[0].Result.Pairs[1].Key {
		t.Errorf("lists of one answer share their pairs: %v", d)
	}
	if !slices.Equal(shared[:9], make([]api.Pair, 9)) || !sameDeals(again, plainDeals(l)) {
		t.Error("a change of the Deals was one of the events, or of other Deals")
	}
	d[0].Ops[0].Op.Key, d[0].Ops = 9, append(d[0].Ops, api.Call{})
	shared[0].Key = 77
	if again[0].Ops[0].Result.Pairs[0].Key != 0 || l[2].Op.Key != 0 || !sameEvent(l[2], op(1, api.Op{}, r)) {
		t.Error("a change of the events was one of the Deals")
	}
}

// Promise 20.2: the bonds of all lists, in their order, also of ones that are not possible.
func TestBonds(t *testing.T) {
	for _, x := range []struct {
		l    []api.Event
		want [][2]int
	}{
		{nil, nil},
		{[]api.Event{begin(1, 1, 1), get(1)}, nil},
		{[]api.Event{begin(1, 1, 1), begin(2, 2, 1), bonded(2, 1)}, [][2]int{{2, 1}}},
		{[]api.Event{bonded(2, 1), done(3), bonded(1, 2), bonded(2, 1), bonded(2, 2), prep(1, 3)}, [][2]int{{2, 1}, {1, 2}, {2, 1}, {2, 2}}},
		{[]api.Event{bonded(-5, 1<<40), {Kind: 4, T: 7, N: math.MaxInt}}, [][2]int{{-5, 1 << 40}, {7, math.MaxInt}}},
		{slices.Repeat([]api.Event{bonded(9, 8)}, 20001), slices.Repeat([][2]int{{9, 8}}, 20001)},
	} {
		if b := Bonds(x.l); !slices.Equal(b, x.want) {
			t.Errorf("Bonds = %v, want %v", b, x.want)
		}
	}
}

// Promise 20.4: a bond's number that is no int is told somehow.
func TestBondsBeyond(t *testing.T) {
	for _, n := range []uint64{1 << 63, math.MaxUint64} {
		if b := Bonds([]api.Event{{Kind: 4, T: 1, N: n}}); len(b) != 1 || b[0][0] != 1 {
			t.Errorf("Bonds = %v", b)
		}
	}
}
