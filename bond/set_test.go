package bond

import (
	"slices"
	"testing"
)

// of is the set of some places.
func of(l ...int) *set {
	var s set
	for _, n := range l {
		s.add(n)
	}
	return &s
}

// holds holds what is told of a set, whose places are l, ascending.
func (s *set) holds(t *testing.T, l ...int) {
	t.Helper()
	for range 2 {
		if got := s.places(); !slices.Equal(got, l) {
			t.Errorf("places() = %v, want %v", got, l)
		}
	}
	if s.empty() != (len(l) == 0) {
		t.Errorf("empty() = %v of %v", s.empty(), l)
	}
	for n := range most {
		if s.has(n) != slices.Contains(l, n) {
			t.Errorf("has(%d) = %v of %v", n, s.has(n), l)
		}
	}
}

// Each place that there can be, alone and beside others, is added and dropped without another one.
func TestEveryPlace(t *testing.T) {
	for n := range most {
		s := of(n)
		s.holds(t, n)
		s.add(n)
		s.holds(t, n)
		for _, m := range []int{n - 64, n - 1, n + 1, n + 64} {
			if m >= 0 && m < most {
				s.drop(m)
			}
		}
		s.holds(t, n)
		s.drop(n)
		s.holds(t)
		s.drop(n)
		s.holds(t)
	}
	all := upTo(most - 1)
	s := of(all...)
	s.holds(t, all...)
	s.drop(1000)
	s.holds(t, slices.Delete(all, 999, 1000)...)
}

// Sets are joined and taken apart, and neither changes the other one.
func TestSets(t *testing.T) {
	a, b := of(0, 5, 63, 64, 1999), of(5, 64, 65, 1000)
	rest := a.without(b)
	rest.holds(t, 0, 63, 1999)
	rest = b.without(a)
	rest.holds(t, 65, 1000)
	rest = a.without(a)
	rest.holds(t)
	rest = a.without(of())
	rest.holds(t, 0, 5, 63, 64, 1999)
	a.holds(t, 0, 5, 63, 64, 1999)
	a.join(b)
	a.holds(t, 0, 5, 63, 64, 65, 1000, 1999)
	b.holds(t, 5, 64, 65, 1000)
	of().holds(t)
}
