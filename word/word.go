// Package word encodes times, transactions, "for ever" and links as 64-bit words, so that each of them fits one word that is read or replaced as a whole.
package word

import (
	"vinculum/api"
)

// The words of times, of for ever and of transactions lie apart, in this order, so that a word is a stamp of one kind at most.
const (
	lastTime uint64 = 1 << 40
	ever     uint64 = 1 << 61
	txnBase  uint64 = 1 << 62
	lastTxn  uint64 = 65535
)

// A link holds its slot plus 1, so that no link is 0; that sum reaches 2^16 and needs one bit more than the slot.
const (
	lastSlot = 65535
	lastTag  = 65535
	tagShift = 17

	slotMask uint64 = 1<<17 - 1
	tagMask  uint64 = 1<<16 - 1
	markBit  uint64 = 1 << 40
)

// Time encodes the time t; it is false beyond the last time.
func Time(t uint64) (uint64, bool) {
	if t > lastTime {
		return 0, false
	}
	return t, true
}

// Txn encodes the transaction id; it is false for an id out of range.
func Txn(id int) (uint64, bool) {
	// A negative id turns into a number far beyond the last transaction.
	return txn(uint64(id))
}

// txn takes the whole number, because an int may be too narrow for the number of a stamp.
func txn(n uint64) (uint64, bool) {
	if n < 1 || n > lastTxn {
		return 0, false
	}
	return txnBase + n, true
}

// Forever is the end word of a version that nobody has ended.
func Forever() uint64 {
	return ever
}

// Read decodes a stamp; a word that is none yields the zero Stamp.
func Read(w uint64) api.Stamp {
	switch {
	case w <= lastTime:
		return api.Stamp{Kind: api.WTime, N: w}
	case w == ever:
		return api.Stamp{Kind: api.WEver}
	case w > txnBase && w <= txnBase+lastTxn:
		return api.Stamp{Kind: api.WTxn, N: w - txnBase}
	}
	return api.Stamp{}
}

// Of encodes a stamp; it is false for what Read never yields of a stamp's word.
func Of(s api.Stamp) (uint64, bool) {
	switch s.Kind {
	case api.WTime:
		return Time(s.N)
	case api.WTxn:
		return txn(s.N)
	case api.WEver:
		if s.N == 0 {
			return ever, true
		}
	}
	return 0, false
}

// Link encodes a slot with its tag, unmarked; it is false if one is out of range.
func Link(slot, tag int) (uint64, bool) {
	if slot < 0 || slot > lastSlot || tag < 0 || tag > lastTag {
		return 0, false
	}
	return uint64(tag)<<tagShift + uint64(slot) + 1, true
}

// Unlink decodes any word; the slot is -1 where the word names none.
func Unlink(w uint64) (slot, tag int, marked bool) {
	slot = int(w&slotMask) - 1
	tag = int(w >> tagShift & tagMask)
	marked = w&markBit != 0
	return slot, tag, marked
}

// Mark sets the bit that is beside the slot and the tag, so that a link keeps both.
func Mark(w uint64) uint64 {
	return w | markBit
}

// Clear undoes Mark.
func Clear(w uint64) uint64 {
	return w &^ markBit
}

// Before orders times, with for ever after all of them; no other word is before or after anything.
func Before(a, b uint64) bool {
	if a > lastTime {
		return false
	}
	return b == ever || b <= lastTime && a < b
}
