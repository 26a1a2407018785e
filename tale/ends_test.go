package tale

import (
	"slices"
	"testing"

	"vinculum/api"
	"vinculum/bond"
	"vinculum/see"
	"vinculum/table"
	"vinculum/word"
)

// The tests of this file hold W5 of histories: of all short ones that are possible, and of those of transactions that see by package see and end as package bond lets them.

// place finds the first event of a kind of a transaction, or -1.
func place(l []api.Event, kind, id int) int {
	return slices.IndexFunc(l, func(v api.Event) bool { return v.Kind == kind && v.T == id })
}

// bondsHold holds of a possible history that who has a bond committed only after the other one, and at a greater time if that one had one when the bond was made. It counts the bonds of those that committed.
func bondsHold(t *testing.T, l []api.Event) int {
	t.Helper()
	deals := Deals(l)
	n := 0
	for i, v := range l {
		if v.Kind != api.EBond {
			continue
		}
		x, y := deals[v.T-1], deals[v.N-1]
		if x.State == api.SCommitted {
			n++
			if y.State != api.SCommitted || place(l, api.EDone, y.ID) > place(l, api.EDone, x.ID) {
				t.Fatalf("%d committed ahead of %d, to which it has a bond: %v", x.ID, y.ID, l)
			}
		}
		prepared := place(l, api.EPrep, y.ID)
		if x.End > 0 && prepared >= 0 && prepared < i && x.End <= y.End {
			t.Fatalf("%d has a bond to %d, which has a greater end time: %v", x.ID, y.ID, l)
		}
	}
	return n
}

// W5: all short histories that Ok lets pass.
func TestEveryHistoryKeepsBonds(t *testing.T) {
	n := 0
	visit := func(l []api.Event) { n += bondsHold(t, l) }
	two := []api.Event{begin(1, 1, 1), begin(2, 3, 2)}
	extends(t, two, 2, 6, visit)
	extends(t, append(two[:2:2], prep(1, 4), prep(2, 5), begin(3, 7, 3)), 3, 4, visit)
	if n < 200 {
		t.Errorf("%d bonds were held", n)
	}
}

// value is a version of a key.
type value struct {
	n          int
	begin, end uint64
}

// party is a transaction that gets keys and gives them values. If it fails, it aborts when it has an end time already.
type party struct {
	id    int
	ops   []api.Op
	fails bool
	at    int
	begin uint64
	end   uint64
	bound []int
	state int
}

// world is the values of a few keys, and what happened to them.
type world struct {
	table *table.Table
	bonds *bond.Bonds
	clock uint64
	keys  [3][]*value
	all   []*party
	l     []api.Event
}

func newWorld() *world {
	tab, _ := table.New(100)
	return &world{table: tab, bonds: bond.New()}
}

// step makes the next step of a transaction.
func (w *world) step(x *party) {
	switch {
	case x.id == 0:
		w.clock++
		x.begin, x.state = w.clock, api.SActive
		x.id, _ = w.table.Make(api.LSnap, x.begin)
		w.bonds.Open(x.id)
		w.all = append(w.all, x)
		w.l = append(w.l, begin(x.id, x.begin, api.LSnap))
	case x.at < len(x.ops):
		o := x.ops[x.at]
		x.at++
		if o.Kind == api.OAbort {
			w.abort(x, api.RAsked)
		} else if o.Kind == api.OGet {
			w.get(x, o)
		} else {
			w.put(x, o)
		}
	case x.end == 0:
		w.clock++
		x.end = w.clock
		w.table.Turn(x.id, api.SPrep)
		w.table.End(x.id, x.end)
		w.l = append(w.l, prep(x.id, x.end))
	case x.fails:
		w.abort(x, api.RInvalid)
	default:
		w.finish(x)
	}
}

// get tells what x sees, and bonds it to those on which that hangs.
func (w *world) get(x *party, o api.Op) {
	r := api.Result{E: api.ErrNone}
	for _, v := range w.keys[o.Key] {
		seen, on := see.See(v.begin, v.end, x.id, x.begin, w.table.Get)
		if seen == api.VYes {
			r = api.Result{Value: v.n}
		}
		for _, to := range on {
			if !slices.Contains(x.bound, to) {
				w.bonds.Bind(x.id, to)
				x.bound = append(x.bound, to)
				w.l = append(w.l, bonded(x.id, to))
			}
		}
	}
	w.l = append(w.l, op(x.id, o, r))
}

// put gives a key a value, unless another one was first.
func (w *world) put(x *party, o api.Op) {
	me, _ := word.Txn(x.id)
	old := func(n uint64) bool { return n == me || word.Read(n).Kind == api.WTime && n <= x.begin }
	if l := w.keys[o.Key]; len(l) > 0 {
		v := l[0]
		if !old(v.begin) || v.end != word.Forever() {
			w.abort(x, api.RConflict)
			return
		}
		v.end = me
	}
	w.keys[o.Key] = slices.Insert(w.keys[o.Key], 0, &value{o.Value, me, word.Forever()})
	w.l = append(w.l, op(x.id, o, api.Result{}))
}

// finish commits x, or lets it wait, or aborts it if what it has a bond to was aborted.
func (w *world) finish(x *party) {
	switch _, e := w.bonds.Good(x.id); e {
	case api.OK:
		w.table.Turn(x.id, api.SCommitted)
		x.state = api.SCommitted
		w.replace(x, x.end, x.end)
		w.l = append(w.l, done(x.id))
	case api.ErrState:
		w.abort(x, api.RCascade)
	}
}

func (w *world) abort(x *party, reason int) {
	w.bonds.Bad(x.id)
	w.table.Turn(x.id, api.SAborted)
	x.state = api.SAborted
	w.replace(x, 0, word.Forever())
	w.l = append(w.l, gone(x.id, reason))
}

// replace puts times where x stands in the words, and takes versions away whose begin is 0.
func (w *world) replace(x *party, begin, end uint64) {
	me, _ := word.Txn(x.id)
	for key, l := range w.keys {
		for _, v := range l {
			if v.begin == me {
				v.begin = begin
			}
			if v.end == me {
				v.end = end
			}
		}
		w.keys[key] = slices.DeleteFunc(l, func(v *value) bool { return v.begin == 0 })
	}
}

// same holds that the history tells what the transactions are.
func (w *world) same(t *testing.T) {
	t.Helper()
	if ok, at := Ok(w.l); !ok {
		t.Fatalf("event %d is not possible: %v", at, w.l)
	}
	bound := 0
	for i, d := range Deals(w.l) {
		x := w.all[i]
		if d.ID != x.id || d.Begin != x.begin || d.End != x.end || d.State != x.state {
			t.Fatalf("%v is %v", *x, d)
		}
		bound += len(x.bound)
	}
	if len(Deals(w.l)) != len(w.all) || len(Bonds(w.l)) != bound {
		t.Fatalf("%d Deals, %d Bonds: %v", len(Deals(w.l)), len(Bonds(w.l)), w.l)
	}
	for _, b := range Bonds(w.l) {
		if !slices.Contains(w.all[b[0]-1].bound, b[1]) {
			t.Fatalf("a bond %v: %v", b, w.l)
		}
	}
}

// spoil breaks each bond of one that committed in both ways that there are, and holds that neither is possible.
func (w *world) spoil(t *testing.T) {
	t.Helper()
	for _, b := range Bonds(w.l) {
		first, last := place(w.l, api.EDone, b[1]), place(w.l, api.EDone, b[0])
		if last < 0 {
			continue
		}
		early := slices.Delete(slices.Clone(w.l), first, first+1)
		early = slices.Insert(early, last, w.l[first])
		if ok, at := Ok(early); ok || at < first || at >= last {
			t.Fatalf("Ok = %v, %d where %d commits ahead of %d: %v", ok, at, b[0], b[1], early)
		}
		lost := slices.Clone(w.l)
		lost[first] = gone(b[1], api.RAsked)
		if ok, at := Ok(lost); ok || at <= first || at > last {
			t.Fatalf("Ok = %v, %d where %d commits and %d does not: %v", ok, at, b[0], b[1], lost)
		}
	}
}

// drawnParty draws a transaction.
func drawnParty(d *draws) *party {
	x := &party{fails: d.below(4) == 0}
	for range 1 + d.below(3) {
		kind := []int{api.OGet, api.OGet, api.OUpdate, api.OUpdate}[d.below(4)]
		x.ops = append(x.ops, api.Op{Kind: kind, Key: d.below(3), Value: d.below(1000)})
	}
	if d.below(6) == 0 {
		x.ops = append(x.ops, api.Op{Kind: api.OAbort})
	}
	return x
}

// W5: transactions in drawn orders of their steps, up to five at a time.
func TestBondsOfTransactions(t *testing.T) {
	d := draws(7)
	bonds, lost := 0, 0
	for range 3000 {
		w := newWorld()
		var open []*party
		left := 2 + d.below(20)
		for steps := 0; steps < 4000 && left+len(open) > 0; steps++ {
			if len(open) < 5 && left > 0 {
				open = append(open, drawnParty(&d))
				left--
			}
			x := open[d.below(len(open))]
			if x.end > 0 {
				x = open[d.below(len(open))]
			}
			w.step(x)
			open = slices.DeleteFunc(open, func(x *party) bool { return x.state > api.SActive })
		}
		if left+len(open) > 0 {
			t.Fatalf("%d do not end: %v", len(open), w.l)
		}
		w.same(t)
		bonds += bondsHold(t, w.l)
		w.spoil(t)
		for _, v := range w.l {
			if v.Kind == api.EGone && v.Result.Reason == api.RCascade {
				lost++
			}
		}
		parses(t, Text(w.l))
		for range 5 {
			n := d.below(len(w.l))
			holds(t, w.l[:n])
		}
	}
	if bonds < 1000 || lost < 100 {
		t.Errorf("%d bonds held, and %d transactions were lost by them", bonds, lost)
	}
}
