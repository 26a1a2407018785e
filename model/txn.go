package model

import (
	"sync"

	"vinculum/api"
)

// fate is how a transaction ends. It is published once, and with it, in that moment, what becomes of all that the transaction has written.
type fate struct {
	once  sync.Once
	state int
	end   uint64
}

// publish lets the fate be known; the first time counts.
func (f *fate) publish(state int, end uint64) {
	f.once.Do(func() {
		f.state, f.end = state, end
	})
}

// by tells whether the transaction has committed by a time. There may be no transaction, as nobody has ended most versions.
func (f *fate) by(at uint64) bool {
	return f != nil && f.state == api.SCommitted && f.end <= at
}

// since tells whether the transaction may still commit, or has done so after a time.
func (f *fate) since(at uint64) bool {
	return f != nil && (f.state == api.SActive || f.state == api.SCommitted && f.end > at)
}

// version is a value of a key. One that a transaction has made and ended itself stays its own, and is no longer ended if the transaction gives the key a value again.
type version struct {
	value        int
	maker, ender *fate
}

// existing makes what tells whether a version exists at a time, by what has committed.
func existing(at uint64) func(*version) bool {
	return func(v *version) bool { return v.maker.by(at) && !v.ender.by(at) }
}

// garbage tells whether no transaction that began at low or later sees the version, however those that are active end.
func (v *version) garbage(low uint64) bool {
	return v.maker.state == api.SAborted || v.ender.by(low)
}

// txn is an active transaction. Again has the keys whose versions have to be at its end what they were at its begin.
type txn struct {
	id, level int
	begin     uint64
	ops       int
	again     [api.MaxKey + 1]bool
	fate      *fate
}

func newTxn(id, level int, begin uint64) *txn {
	return &txn{id: id, level: level, begin: begin, fate: &fate{state: api.SActive}}
}

// knows tells whether what a transaction did counts for x: if that is x itself, or had committed when x began.
func (x *txn) knows(f *fate) bool {
	return f == x.fate || f.by(x.begin)
}

func (x *txn) sees(v *version) bool {
	return x.knows(v.maker) && !x.knows(v.ender)
}

func (x *txn) made(v *version) bool {
	return v.maker == x.fate
}

// conflicts tells whether another transaction has made or ended the version that is still active, or has committed since x began. None has for a key that x has written already, since it would have met with a conflict itself.
func (x *txn) conflicts(v *version) bool {
	return v.maker != x.fate && v.maker.since(x.begin) || v.ender != x.fate && v.ender.since(x.begin)
}

// relies notes that x has found out something of the keys from lo to hi, if its level is at least this one. It may note keys that x has written, which nobody else can change until x has ended.
func (x *txn) relies(level, lo, hi int) {
	if x.level < level {
		return
	}
	for key := lo; key <= hi; key++ {
		x.again[key] = true
	}
}

// abort ends x badly.
func (x *txn) abort(reason int) api.Result {
	x.fate.publish(api.SAborted, 0)
	return api.Result{E: api.ErrAborted, Over: api.SAborted, Reason: reason}
}
