package tale

import (
	"sync"

	"vinculum/api"
)

// most is how many events a history has at most.
const most = 20000

// txn is what a history has told of a transaction. It has no end time as long as that is 0.
type txn struct {
	level      int
	begin, end uint64
	bonds      []*txn
	once       sync.Once
	state      int
}

// publish ends the transaction, and is false if it has ended before.
func (x *txn) publish(state int) bool {
	first := false
	x.once.Do(func() {
		x.state = state
		first = true
	})
	return first
}

func (x *txn) open() bool {
	return x.state == api.SActive
}

// runs tells whether the transaction is open and has no end time.
func (x *txn) runs() bool {
	return x.open() && x.end == 0
}

// ready tells whether the transaction has an end time and waits for nobody any more.
func (x *txn) ready() bool {
	for _, y := range x.bonds {
		if y.state != api.SCommitted {
			return false
		}
	}
	return x.end != 0
}

// history is the transactions of the events so far, in the order of their numbers, and the last time that was drawn.
type history struct {
	txns []*txn
	last uint64
}

// follow goes through a list as far as it is a possible history, and tells the place of the event that is not possible, or -1.
func follow(l []api.Event) (*history, int) {
	h := &history{}
	if len(l) > most {
		return h, most
	}
	for i, v := range l {
		if !h.add(v) {
			return h, i
		}
	}
	return h, -1
}

// add lets an event happen, if it is possible.
func (h *history) add(v api.Event) bool {
	if v.Kind == api.EBegin {
		return h.begin(v)
	}
	if v.T < 1 || v.T > len(h.txns) {
		return false
	}
	x := h.txns[v.T-1]
	switch v.Kind {
	case api.EOp:
		return x.runs()
	case api.EPrep:
		return x.runs() && h.prepare(x, v.N)
	case api.EBond:
		return x.open() && h.bind(x, v.N)
	case api.EDone:
		return x.ready() && x.publish(api.SCommitted)
	case api.EGone:
		return x.publish(api.SAborted)
	}
	return false
}

// draw draws a time, which is after all times before it.
func (h *history) draw(n uint64) bool {
	if n <= h.last {
		return false
	}
	h.last = n
	return true
}

func (h *history) begin(v api.Event) bool {
	if v.T != len(h.txns)+1 || !h.draw(v.N) {
		return false
	}
	h.txns = append(h.txns, &txn{level: v.Op.Value, begin: v.N, state: api.SActive})
	return true
}

func (h *history) prepare(x *txn, end uint64) bool {
	if !h.draw(end) {
		return false
	}
	x.end = end
	return true
}

// bind lets a transaction depend on another one.
func (h *history) bind(x *txn, to uint64) bool {
	if to < 1 || to > uint64(len(h.txns)) {
		return false
	}
	y := h.txns[to-1]
	if x == y || y.state == api.SAborted || x.end != 0 && x.end <= y.end {
		return false
	}
	x.bonds = append(x.bonds, y)
	return true
}
