package tale

import (
	"maps"
	"slices"
	"testing"

	"vinculum/api"
	"vinculum/model"
)

// The tests of this file hold W3 of what Deals tells of transactions that a Model executed: by the histories alone, as a Model keeps what the levels guarantee.

// diary writes down what a Model executes.
type diary struct {
	m *model.Model
	l []api.Event
}

func (y *diary) begin(s, level int) {
	if id, e := y.m.Begin(s, level); e == api.OK {
		y.l = append(y.l, begin(id, y.m.Now(), level))
	}
}

// do writes an operation down if it did not end its transaction, and else the end.
func (y *diary) do(s int, o api.Op) {
	id, was := y.m.Status(s).ID, y.m.Now()
	r, e := y.m.Do(s, o)
	if e != api.OK {
		return
	}
	if y.m.Now() > was {
		y.l = append(y.l, prep(id, y.m.Now()))
	}
	switch r.Over {
	case 0:
		y.l = append(y.l, op(id, o, r))
	case api.SCommitted:
		y.l = append(y.l, done(id))
	case api.SAborted:
		y.l = append(y.l, gone(id, r.Reason))
	}
}

// drawnOp draws an operation on the first keys.
func drawnOp(d *draws, keys int) api.Op {
	key := d.below(keys)
	switch d.below(12) {
	case 0:
		return api.Op{Kind: api.OAbort}
	case 1, 2:
		return api.Op{Kind: api.OCommit}
	case 3, 4:
		return api.Op{Kind: api.OInsert, Key: key, Value: d.below(3)}
	case 5, 6:
		return api.Op{Kind: api.OUpdate, Key: key, Value: d.below(3)}
	case 7:
		return api.Op{Kind: api.ODelete, Key: key}
	case 8, 9:
		return api.Op{Kind: api.OScan, Key: key, Hi: key + d.below(keys-key)}
	}
	return api.Op{Kind: api.OGet, Key: key}
}

// drawnDiary draws the calls of transactions of the levels that level tells.
func drawnDiary(d *draws, sessions, keys int, level func() int) *diary {
	m, _ := model.New(api.Conf{Slots: 100, Limit: 1 << 40})
	y := &diary{m: m}
	for range 120 {
		if s := d.below(sessions); m.Status(s).Live {
			y.do(s, drawnOp(d, keys))
		} else {
			y.begin(s, level())
		}
	}
	return y
}

// keys is the values of the keys that are there.
type keys map[int]int

func (k keys) apply(c api.Call) {
	switch {
	case c.Result.E != api.OK:
	case c.Op.Kind == api.ODelete:
		delete(k, c.Op.Key)
	case c.Op.Kind == api.OInsert || c.Op.Kind == api.OUpdate:
		k[c.Op.Key] = c.Op.Value
	}
}

func (k keys) pairs(lo, hi int) []api.Pair {
	var l []api.Pair
	for _, key := range slices.Sorted(maps.Keys(k)) {
		if key >= lo && key <= hi {
			l = append(l, api.Pair{Key: key, Value: k[key]})
		}
	}
	return l
}

// agrees reports whether an answer is what the keys let it be.
func (k keys) agrees(c api.Call) bool {
	value, there := k[c.Op.Key]
	switch c.Op.Kind {
	case api.OGet:
		return there == (c.Result.E == api.OK) && c.Result.Value == value
	case api.OScan:
		return slices.Equal(c.Result.Pairs, k.pairs(c.Op.Key, c.Op.Hi))
	case api.OInsert:
		return there == (c.Result.E == api.ErrExists)
	}
	return there == (c.Result.E == api.OK)
}

// after tells the keys behind all that committed by a time.
func after(deals []api.Deal, at uint64) keys {
	deals = slices.DeleteFunc(slices.Clone(deals), func(x api.Deal) bool { return x.State != api.SCommitted || x.End > at })
	slices.SortFunc(deals, func(a, b api.Deal) int { return int(a.End) - int(b.End) })
	k := keys{}
	for _, x := range deals {
		for _, c := range x.Ops {
			k.apply(c)
		}
	}
	return k
}

// tells reports whether the answers of a transaction that count are what the keys and its own writes let them be.
func (k keys) tells(x api.Deal, counts func(api.Call) bool) bool {
	for _, c := range x.Ops {
		if counts(c) && !k.agrees(c) {
			return false
		}
		k.apply(c)
	}
	return true
}

// guaranteed reports whether what a transaction that committed was told is what its level guarantees.
func guaranteed(deals []api.Deal, x api.Deal) bool {
	all := func(api.Call) bool { return true }
	gets := func(c api.Call) bool { return c.Op.Kind == api.OGet && c.Result.E == api.OK }
	if !after(deals, x.Begin).tells(x, all) {
		return false
	}
	switch x.Level {
	case api.LSerial:
		return after(deals, x.End-1).tells(x, all)
	case api.LRepeat:
		return after(deals, x.End-1).tells(x, gets)
	}
	return x.Level == api.LSnap
}

// W3: each transaction that committed has the guarantee of its level by what Deals tells of it, also by way of the text; and the keys are in the end what the Deals leave.
func TestLevels(t *testing.T) {
	d := draws(9)
	committed, told, wrong := 0, 0, 0
	for round := range 600 {
		y := drawnDiary(&d, 4, 1+round%5, func() int { return 1 + d.below(3) })
		if ok, at := Ok(y.l); !ok {
			t.Fatalf("event %d is not possible: %v", at, y.l)
		}
		l, e := Parse(Text(y.l))
		deals := Deals(y.l)
		if e != api.OK || !sameDeals(Deals(l), deals) {
			t.Fatalf("Deals = %v, and %v by the text, %d", deals, Deals(l), e)
		}
		for _, x := range deals {
			if x.State != api.SCommitted {
				continue
			}
			committed++
			if !guaranteed(deals, x) {
				t.Fatalf("%v does not have the guarantee of its level: %v", x, y.l)
			}
			for i, c := range x.Ops {
				if c.Op.Kind == api.OGet && c.Result.E == api.OK {
					told++
					x.Ops[i].Result.Value += 5
					if guaranteed(deals, x) {
						wrong++
					}
					x.Ops[i].Result.Value -= 5
				}
			}
		}
		if !slices.Equal(after(deals, y.m.Now()).pairs(0, 63), y.m.Pairs(y.m.Now())) {
			t.Fatalf("%v is there: %v", y.m.Pairs(y.m.Now()), y.l)
		}
	}
	if committed < 3000 || told < 1000 || wrong > 0 {
		t.Errorf("%d committed; of %d other values that they had read %d were held for right", committed, told, wrong)
	}
}

// W3: transactions that are all LSerial were answered as if they had been executed one after the other, in the order of their end times.
func TestLevelsSerial(t *testing.T) {
	d := draws(10)
	for round := range 300 {
		y := drawnDiary(&d, 5, 1+round%5, func() int { return api.LSerial })
		deals := slices.DeleteFunc(Deals(y.l), func(x api.Deal) bool { return x.State != api.SCommitted })
		slices.SortFunc(deals, func(a, b api.Deal) int { return int(a.End) - int(b.End) })
		k := keys{}
		for _, x := range deals {
			if !k.tells(x, func(api.Call) bool { return true }) {
				t.Fatalf("%v was not answered so: %v", x, y.l)
			}
		}
		if !slices.Equal(k.pairs(0, 63), y.m.Pairs(y.m.Now())) {
			t.Fatalf("%v is there, and %v in the end: %v", y.m.Pairs(y.m.Now()), k, y.l)
		}
	}
}
