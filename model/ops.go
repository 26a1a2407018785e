package model

import (
	"slices"

	"vinculum/api"
)

func isKey(n int) bool {
	return n >= 0 && n <= api.MaxKey
}

func isValue(n int) bool {
	return n >= 0 && n <= api.MaxValue
}

// isOp tells whether o is one of the operations. Fields that it does not use are 0.
func isOp(o api.Op) bool {
	switch o.Kind {
	case api.OGet, api.ODelete:
		return isKey(o.Key) && o.Hi == 0 && o.Value == 0
	case api.OInsert, api.OUpdate:
		return isKey(o.Key) && o.Hi == 0 && isValue(o.Value)
	case api.OScan:
		return isKey(o.Key) && isKey(o.Hi) && o.Key <= o.Hi && o.Value == 0
	case api.OCommit, api.OAbort:
		return o.Key == 0 && o.Hi == 0 && o.Value == 0
	}
	return false
}

// ends tells whether an operation ends its transaction, whatever comes of it.
func ends(o api.Op) bool {
	return o.Kind == api.OCommit || o.Kind == api.OAbort
}

func (m *Model) execute(x *txn, o api.Op) api.Result {
	switch o.Kind {
	case api.OCommit:
		return m.commit(x)
	case api.OAbort:
		r := x.abort(api.RAsked)
		r.E = api.OK
		return r
	}
	x.ops++
	switch o.Kind {
	case api.OGet:
		return m.get(x, o.Key)
	case api.OScan:
		x.relies(api.LSerial, o.Key, o.Hi)
		return api.Result{Pairs: m.pairs(o.Key, o.Hi, x.sees)}
	}
	return m.write(x, o)
}

// find finds the version of a key of which something holds, or nil. There is at most one that exists at a time, that a transaction sees, or that it has made.
func (m *Model) find(key int, holds func(*version) bool) *version {
	l := m.keys[key]
	if i := slices.IndexFunc(l, holds); i >= 0 {
		return l[i]
	}
	return nil
}

// pairs tells the versions of the keys from lo to hi of which something holds.
func (m *Model) pairs(lo, hi int, holds func(*version) bool) []api.Pair {
	var l []api.Pair
	for key := lo; key <= hi; key++ {
		if v := m.find(key, holds); v != nil {
			l = append(l, api.Pair{Key: key, Value: v.value})
		}
	}
	return l
}

func (m *Model) get(x *txn, key int) api.Result {
	v := m.find(key, x.sees)
	if v == nil {
		x.relies(api.LSerial, key, key)
		return api.Result{E: api.ErrNone}
	}
	x.relies(api.LRepeat, key, key)
	return api.Result{Value: v.value}
}

// write inserts, updates or deletes, unless what x sees of the key rules it out.
func (m *Model) write(x *txn, o api.Op) api.Result {
	seen := m.find(o.Key, x.sees)
	if e := fault(o.Kind, seen != nil); e != api.OK {
		x.relies(api.LSerial, o.Key, o.Key)
		return api.Result{E: e}
	}
	if m.find(o.Key, x.conflicts) != nil {
		return x.abort(api.RConflict)
	}
	if o.Kind == api.ODelete {
		seen.ender = x.fate
		return api.Result{}
	}
	return m.put(x, o.Key, o.Value, seen)
}

func fault(kind int, seen bool) api.Errno {
	switch {
	case kind == api.OInsert && seen:
		return api.ErrExists
	case kind != api.OInsert && !seen:
		return api.ErrNone
	}
	return api.OK
}

// put gives a key a value: in the version that x has made already, or in a new one, which ends the one that x sees.
func (m *Model) put(x *txn, key, value int, seen *version) api.Result {
	v := m.find(key, x.made)
	if v == nil {
		if m.Used() == m.conf.Slots {
			return x.abort(api.RFull)
		}
		if seen != nil {
			seen.ender = x.fate
		}
		v = &version{maker: x.fate}
		m.keys[key] = append(m.keys[key], v)
	}
	v.value, v.ender = value, nil
	return api.Result{}
}

// commit ends x well, if there is a time for it and what x relies on still holds at that time.
func (m *Model) commit(x *txn) api.Result {
	end, ok := m.draw()
	switch {
	case !ok:
		return x.abort(api.ROver)
	case !m.holds(x, end):
		return x.abort(api.RInvalid)
	}
	x.fate.publish(api.SCommitted, end)
	return api.Result{Over: api.SCommitted}
}

// holds tells whether the versions on which x relies are still those that existed when x began.
func (m *Model) holds(x *txn, end uint64) bool {
	was, is := existing(x.begin), existing(end)
	for key, again := range x.again {
		if again && m.find(key, was) != m.find(key, is) {
			return false
		}
	}
	return true
}
