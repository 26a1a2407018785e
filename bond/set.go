package bond

import (
	"math/bits"

	"vinculum/api"
)

const bitsOfWord = 64

// set is a set of places, a bit for each place that there can be: all that wait for an id are found, and joined with others, by a few words.
type set [(api.MaxTxns + bitsOfWord - 1) / bitsOfWord]uint64

func (s *set) has(place int) bool {
	return s[place/bitsOfWord]>>(place%bitsOfWord)&1 == 1
}

func (s *set) add(place int) {
	s[place/bitsOfWord] |= 1 << (place % bitsOfWord)
}

func (s *set) drop(place int) {
	s[place/bitsOfWord] &^= 1 << (place % bitsOfWord)
}

func (s *set) join(t *set) {
	for i, w := range t {
		s[i] |= w
	}
}

// without tells what is in s and not in t.
func (s *set) without(t *set) set {
	rest := *s
	for i, w := range t {
		rest[i] &^= w
	}
	return rest
}

func (s *set) empty() bool {
	return *s == set{}
}

// places lists a set, ascending.
func (s *set) places() []int {
	var l []int
	for i, w := range s {
		for ; w != 0; w &= w - 1 {
			l = append(l, i*bitsOfWord+bits.TrailingZeros64(w))
		}
	}
	return l
}
