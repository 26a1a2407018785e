package pool

import (
	"math"
	"slices"
	"testing"

	"vinculum/api"
	"vinculum/word"
)

// made is a Pool of n slots whose tags go up to most.
func made(t *testing.T, n, most int) *Pool {
	t.Helper()
	p, e := New(n, most)
	if e != api.OK || p == nil {
		t.Fatalf("New(%d, %d) = %v, %d", n, most, p, e)
	}
	return p
}

// at is the link of a slot with a tag, by the numbers of chapter 1.
func at(slot, tag int) uint64 {
	return uint64(tag)*131072 + uint64(slot) + 1
}

// take takes the slot that must be next, with the tag that it must have.
func take(t *testing.T, p *Pool, slot, tag int) {
	t.Helper()
	if w, e := p.Take(); w != at(slot, tag) || e != api.OK {
		s, g, m := word.Unlink(w)
		t.Fatalf("Take() = slot %d, tag %d, marked %v, %d; want slot %d, tag %d", s, g, m, e, slot, tag)
	}
}

// give gives back a slot by the tag that it has.
func give(t *testing.T, p *Pool, slot, tag int) {
	t.Helper()
	if e := p.Give(at(slot, tag)); e != api.OK {
		t.Fatalf("Give(slot %d, tag %d) = %d", slot, tag, e)
	}
}

// full asks for a slot where none is free.
func full(t *testing.T, p *Pool) {
	t.Helper()
	if w, e := p.Take(); w != 0 || e != api.ErrFull {
		t.Fatalf("Take() = %d, %d; want 0, ErrFull", w, e)
	}
}

// tells holds what a Pool tells of its slots against the numbers, and against the links of the taken slots.
func tells(t *testing.T, p *Pool, free, used, worn int, all ...uint64) {
	t.Helper()
	if p.Free() != free || p.Used() != used || p.Worn() != worn {
		t.Errorf("Free, Used, Worn = %d, %d, %d; want %d, %d, %d", p.Free(), p.Used(), p.Worn(), free, used, worn)
	}
	if got := p.All(); !slices.Equal(got, all) {
		t.Errorf("All() = %v, want %v", got, all)
	}
	for _, w := range all {
		if !p.Live(w) {
			t.Errorf("Live(%d) = false", w)
		}
	}
}

// refuses holds that a word is not Live, and that Give takes nothing back for it.
func refuses(t *testing.T, p *Pool, w uint64) {
	t.Helper()
	free, used, worn, all := p.Free(), p.Used(), p.Worn(), p.All()
	if p.Live(w) {
		t.Errorf("Live(%#x) = true", w)
	}
	if e := p.Give(w); e != api.ErrStale {
		t.Errorf("Give(%#x) = %d, want ErrStale", w, e)
	}
	tells(t, p, free, used, worn, all...)
}

// oddWords are words of no slot: 0, each power of two with its neighbours but for the small ones, and stamps.
func oddWords() []uint64 {
	l := []uint64{0, math.MaxUint64, 1<<62 + 1, 1<<62 + 65535}
	for i := 13; i < 64; i++ {
		p := uint64(1) << i
		l = append(l, p-1, p, p+1)
	}
	return l
}

// Promise 3.1: New at the numbers that are permitted, its edges among them.
func TestNew(t *testing.T) {
	for _, n := range []int{1, 2, 3, 256, 4095, 4096} {
		for _, most := range []int{0, 1, 2, 65534, 65535} {
			p := made(t, n, most)
			tells(t, p, n, 0, 0)
			for i := range n {
				take(t, p, i, 0)
			}
			full(t, p)
		}
	}
}

// Promise 3.1: New at the numbers that are not permitted.
func TestNewOutOfRange(t *testing.T) {
	few := []int{math.MinInt, math.MinInt + 1, math.MinInt32, -4096, -2, -1, 0}
	many := []int{4097, 4098, 65536, 1 << 17, math.MaxInt32, math.MaxInt}
	for _, n := range append(few, many...) {
		for _, most := range []int{-1, 0, 5, 65535, 65536} {
			if p, e := New(n, most); p != nil || e != api.ErrArg {
				t.Errorf("New(%d, %d) = %v, %d", n, most, p, e)
			}
		}
	}
	for _, most := range []int{math.MinInt, math.MinInt32, -65535, -2, -1, 65536, 65537, 1 << 17, math.MaxInt32, math.MaxInt} {
		for _, n := range []int{1, 3, 4096} {
			if p, e := New(n, most); p != nil || e != api.ErrArg {
				t.Errorf("New(%d, %d) = %v, %d", n, most, p, e)
			}
		}
	}
}

// Promise 3.1: the example of the chapter.
func TestExample(t *testing.T) {
	p := made(t, 3, 5)
	w, _ := p.Take()
	if slot, tag, _ := word.Unlink(w); slot != 0 || tag != 0 {
		t.Errorf("the first: slot %d, tag %d", slot, tag)
	}
	if e := p.Give(w); e != api.OK {
		t.Errorf("Give = %d", e)
	}
	w, _ = p.Take()
	if slot, tag, _ := word.Unlink(w); slot != 0 || tag != 1 {
		t.Errorf("the second: slot %d, tag %d", slot, tag)
	}
}

// Promise 3.1: Take goes up through the slots that were never taken; what is told behind each call; the last free slot and the Take behind it.
func TestTakeAll(t *testing.T) {
	for _, n := range []int{1, 2, 5, 4096} {
		p := made(t, n, 3)
		var l []uint64
		for i := range n {
			take(t, p, i, 0)
			l = append(l, at(i, 0))
			if n < 9 || i >= n-2 {
				tells(t, p, n-i-1, i+1, 0, l...)
			}
		}
		full(t, p)
		full(t, p)
		tells(t, p, 0, n, 0, l...)
	}
}

// Promise 3.1: behind a full Pool, what is given back can be taken, and nothing more.
func TestTakeBehindFull(t *testing.T) {
	p := made(t, 2, 3)
	take(t, p, 0, 0)
	take(t, p, 1, 0)
	full(t, p)
	give(t, p, 0, 0)
	tells(t, p, 1, 1, 0, at(1, 0))
	take(t, p, 0, 1)
	tells(t, p, 0, 2, 0, at(0, 1), at(1, 0))
	full(t, p)
	give(t, p, 1, 0)
	take(t, p, 1, 1)
	full(t, p)
	tells(t, p, 0, 2, 0, at(0, 1), at(1, 1))
}

// Promise 3.1: what was given back last is taken first, whatever its number, and all of it before what was never taken.
func TestTakeTheLastGivenBack(t *testing.T) {
	for _, order := range [][]int{{0, 1, 2, 3}, {3, 2, 1, 0}, {2, 0, 3, 1}, {1, 3, 0, 2}} {
		p := made(t, 7, 9)
		for i := range 4 {
			take(t, p, i, 0)
		}
		for _, i := range order {
			give(t, p, i, 0)
		}
		tells(t, p, 7, 0, 0)
		for k := range 4 {
			take(t, p, order[3-k], 1)
		}
		take(t, p, 4, 0)
		take(t, p, 5, 0)
		give(t, p, 4, 0)
		take(t, p, 4, 1)
		take(t, p, 6, 0)
		full(t, p)
	}
}

// Promise 3.1: Takes and Gives in turn: what was given back before is still below what was given back since.
func TestTakeAndGiveInTurn(t *testing.T) {
	p := made(t, 5, 9)
	for i := range 4 {
		take(t, p, i, 0)
	}
	give(t, p, 1, 0)
	give(t, p, 3, 0)
	tells(t, p, 3, 2, 0, at(0, 0), at(2, 0))
	take(t, p, 3, 1)
	give(t, p, 0, 0)
	give(t, p, 3, 1)
	give(t, p, 2, 0)
	tells(t, p, 5, 0, 0)
	take(t, p, 2, 1)
	take(t, p, 3, 2)
	take(t, p, 0, 1)
	take(t, p, 1, 1)
	tells(t, p, 1, 4, 0, at(0, 1), at(1, 1), at(2, 1), at(3, 2))
	take(t, p, 4, 0)
	full(t, p)
}

// Promise 3.1: each Give of a slot raises the tag of that slot by 1, and of no other.
func TestTags(t *testing.T) {
	p := made(t, 3, 100)
	take(t, p, 0, 0)
	take(t, p, 1, 0)
	for tag := range 100 {
		give(t, p, 1, tag)
		take(t, p, 1, tag+1)
		tells(t, p, 1, 2, 0, at(0, 0), at(1, tag+1))
	}
	take(t, p, 2, 0)
}

// Promise 3.1: a slot whose tag was the greatest is worn, at every edge of that tag: it was taken once for each tag, and is never free again.
func TestWorn(t *testing.T) {
	for _, most := range []int{0, 1, 2, 65534, 65535} {
		p := made(t, 2, most)
		for tag := range most {
			take(t, p, 0, tag)
			give(t, p, 0, tag)
		}
		tells(t, p, 2, 0, 0)
		take(t, p, 0, most)
		tells(t, p, 1, 1, 0, at(0, most))
		give(t, p, 0, most)
		tells(t, p, 1, 0, 1)
		refuses(t, p, at(0, most))
		refuses(t, p, at(0, most+1))
		refuses(t, p, at(0, 0))
		take(t, p, 1, 0)
		tells(t, p, 0, 1, 1, at(1, 0))
		full(t, p)
		refuses(t, p, at(0, most))
	}
}

// Promise 3.1: a Pool all of whose slots are worn has none to take, for ever.
func TestAllWorn(t *testing.T) {
	for _, most := range []int{0, 1, 3} {
		p := made(t, 3, most)
		for i := range 3 {
			for tag := range most + 1 {
				take(t, p, i, tag)
				give(t, p, i, tag)
			}
			tells(t, p, 2-i, 0, i+1)
		}
		for range 3 {
			full(t, p)
			tells(t, p, 0, 0, 3)
		}
		for i := range 3 {
			for tag := range most + 3 {
				refuses(t, p, at(i, tag))
			}
		}
	}
}

// Promise 3.1: a worn slot leaves those that were given back as they are, below it and above it.
func TestWornAmongGivenBack(t *testing.T) {
	p := made(t, 4, 1)
	take(t, p, 0, 0)
	give(t, p, 0, 0)
	take(t, p, 0, 1)
	take(t, p, 1, 0)
	take(t, p, 2, 0)
	give(t, p, 1, 0)
	give(t, p, 0, 1)
	give(t, p, 2, 0)
	tells(t, p, 3, 0, 1)
	take(t, p, 2, 1)
	take(t, p, 1, 1)
	take(t, p, 3, 0)
	full(t, p)
	tells(t, p, 0, 3, 1, at(1, 1), at(2, 1), at(3, 0))
}

// Promise 3.1: a link that was given back is refused, while its slot is free, when it is taken again and when it is given back again.
func TestGivenBackIsRefused(t *testing.T) {
	p := made(t, 2, 5)
	take(t, p, 0, 0)
	give(t, p, 0, 0)
	refuses(t, p, at(0, 0))
	take(t, p, 0, 1)
	refuses(t, p, at(0, 0))
	give(t, p, 0, 1)
	refuses(t, p, at(0, 0))
	refuses(t, p, at(0, 1))
	take(t, p, 0, 2)
	tells(t, p, 1, 1, 0, at(0, 2))
}

// Promise 3.1: links of slots that are not taken are refused: of none before the first Take, of a free slot by its coming tag, of one beyond the Pool.
func TestNotTakenIsRefused(t *testing.T) {
	p := made(t, 3, 5)
	for i := range 3 {
		refuses(t, p, at(i, 0))
	}
	take(t, p, 0, 0)
	take(t, p, 1, 0)
	give(t, p, 0, 0)
	refuses(t, p, at(0, 1))
	for _, i := range []int{2, 3, 4, 255, 4095, 4096, 65535, 131070} {
		for _, tag := range []int{0, 1, 5, 65535} {
			refuses(t, p, at(i, tag))
		}
	}
	tells(t, p, 2, 1, 0, at(1, 0))
	take(t, p, 0, 1)
	take(t, p, 2, 0)
}

// Promise 3.1: words of no slot are refused by an untouched Pool, by one in use and by a full one.
func TestNoSlotIsRefused(t *testing.T) {
	for _, n := range []int{0, 2, 3} {
		p := made(t, 3, 5)
		for i := range n {
			take(t, p, i, 0)
		}
		for _, w := range oddWords() {
			refuses(t, p, w)
		}
		for tag := range 3 {
			refuses(t, p, uint64(tag)<<17)
		}
		for i := n; i < 3; i++ {
			take(t, p, i, 0)
		}
	}
}

// Promise 3.1: a taken slot is Live by its current tag alone, of all tags there are.
func TestOtherTagsAreRefused(t *testing.T) {
	p := made(t, 2, 65535)
	take(t, p, 0, 0)
	for tag := range 3 {
		give(t, p, 0, tag)
		take(t, p, 0, tag+1)
	}
	for tag := range 65536 {
		if p.Live(at(0, tag)) != (tag == 3) {
			t.Errorf("tag %d: Live = %v", tag, tag != 3)
		}
		if tag != 3 && p.Give(at(0, tag)) != api.ErrStale {
			t.Errorf("tag %d is given back", tag)
		}
	}
	tells(t, p, 1, 1, 0, at(0, 3))
}

// Promise 3.1: a link with any other bit set, or with one that is not set, is not Live, the mark of chapter 1 among these bits.
func TestOtherBitsAreRefused(t *testing.T) {
	p := made(t, 4096, 65535)
	for i := range 2731 {
		take(t, p, i, 0)
	}
	for i := range 2730 {
		give(t, p, i, 0)
	}
	for tag := range 21845 {
		give(t, p, 2730, tag)
		take(t, p, 2730, tag+1)
	}
	w := at(2730, 21845)
	tells(t, p, 4095, 1, 0, w)
	for b := range 64 {
		refuses(t, p, w^1<<b)
		for c := range b {
			refuses(t, p, w^1<<b^1<<c)
		}
	}
	refuses(t, p, word.Mark(w))
	refuses(t, p, ^w)
	refuses(t, p, w|^uint64(1<<33-1))
	if !p.Live(w) || !p.Live(word.Clear(w)) || p.Give(w) != api.OK {
		t.Error("the link itself is refused")
	}
}

// Promise 3.1: the slot with the greatest number, with the greatest tag.
func TestGreatestLink(t *testing.T) {
	p := made(t, 4096, 65535)
	for i := range 4096 {
		take(t, p, i, 0)
	}
	for tag := range 65535 {
		give(t, p, 4095, tag)
		take(t, p, 4095, tag+1)
	}
	l := p.All()
	if len(l) != 4096 || l[4095] != at(4095, 65535) || !p.Live(l[4095]) {
		t.Errorf("%d links, the last %d", len(l), l[len(l)-1])
	}
	refuses(t, p, at(4096, 0))
	refuses(t, p, at(4095, 65536))
	give(t, p, 4095, 65535)
	if p.Free() != 0 || p.Used() != 4095 || p.Worn() != 1 {
		t.Errorf("Free, Used, Worn = %d, %d, %d", p.Free(), p.Used(), p.Worn())
	}
	full(t, p)
	refuses(t, p, at(4095, 65535))
}

// Promise 3.1: All is in the order of the slots, which is not that in which they were taken, nor that of their tags.
func TestAllInOrder(t *testing.T) {
	p := made(t, 4, 9)
	for i := range 4 {
		take(t, p, i, 0)
	}
	give(t, p, 0, 0)
	take(t, p, 0, 1)
	give(t, p, 0, 1)
	give(t, p, 2, 0)
	take(t, p, 2, 1)
	take(t, p, 0, 2)
	tells(t, p, 0, 4, 0, at(0, 2), at(1, 0), at(2, 1), at(3, 0))
}

// Promise 3.1: All shares nothing with the Pool, nor with what an earlier call returned, the room behind its links included.
func TestAllIsLentToNobody(t *testing.T) {
	p := made(t, 4, 9)
	take(t, p, 0, 0)
	take(t, p, 1, 0)
	l, m := p.All(), p.All()
	for i := range l {
		l[i] = 77
	}
	l = append(l, 78, 79)
	if !slices.Equal(m, []uint64{at(0, 0), at(1, 0)}) {
		t.Errorf("the other list became %v", m)
	}
	tells(t, p, 2, 2, 0, at(0, 0), at(1, 0))
	take(t, p, 2, 0)
	give(t, p, 0, 0)
	if !slices.Equal(m, []uint64{at(0, 0), at(1, 0)}) || !slices.Equal(l, []uint64{77, 77, 78, 79}) {
		t.Errorf("lists from before became %v and %v", m, l)
	}
	tells(t, p, 2, 2, 0, at(1, 0), at(2, 0))
}

// Promise 3.1: two Pools have nothing in common.
func TestPoolsAreApart(t *testing.T) {
	p, q := made(t, 2, 9), made(t, 3, 0)
	take(t, p, 0, 0)
	tells(t, q, 3, 0, 0)
	refuses(t, q, at(0, 0))
	take(t, q, 0, 0)
	take(t, q, 1, 0)
	give(t, q, 0, 0)
	tells(t, p, 1, 1, 0, at(0, 0))
	tells(t, q, 1, 1, 1, at(1, 0))
	refuses(t, p, at(1, 0))
}

// slots is what the document says of a Pool, told by lists that are searched from end to end: the tags, which slots are taken, which are worn, and those that were given back, the last one last.
type slots struct {
	most        int
	tags        []int
	taken, worn []bool
	back        []int
	never       int
}

func (s *slots) take() (uint64, api.Errno) {
	i := s.never
	if n := len(s.back); n > 0 {
		i, s.back = s.back[n-1], s.back[:n-1]
	} else if s.never == len(s.tags) {
		return 0, api.ErrFull
	} else {
		s.never++
	}
	s.taken[i] = true
	return at(i, s.tags[i]), api.OK
}

func (s *slots) give(w uint64) api.Errno {
	for i, tag := range s.tags {
		if !s.taken[i] || at(i, tag) != w {
			continue
		}
		s.taken[i] = false
		if tag == s.most {
			s.worn[i] = true
		} else {
			s.tags[i]++
			s.back = append(s.back, i)
		}
		return api.OK
	}
	return api.ErrStale
}

func (s *slots) all() []uint64 {
	var l []uint64
	for i, tag := range s.tags {
		if s.taken[i] {
			l = append(l, at(i, tag))
		}
	}
	return l
}

func (s *slots) check(t *testing.T, p *Pool) {
	t.Helper()
	worn := 0
	for _, w := range s.worn {
		if w {
			worn++
		}
	}
	tells(t, p, len(s.back)+len(s.tags)-s.never, len(s.all()), worn, s.all()...)
}

// Promises 3.1 and 3.2: long runs of calls, against the lists above: each call answers as they do, what is told behind it is the same, and no link that was given back is Live or comes again.
func TestRuns(t *testing.T) {
	seed := uint64(1)
	next := func(m int) int {
		seed = seed*6364136223846793005 + 1442695040888963407
		return int(seed >> 33 % uint64(m))
	}
	for round := range 400 {
		n, most := 1+next(6), next(4)
		if round%8 == 0 {
			most = 60000
		}
		p := made(t, n, most)
		s := &slots{most: most, tags: make([]int, n), taken: make([]bool, n), worn: make([]bool, n)}
		given := map[uint64]bool{}
		for range 120 {
			if next(2) == 0 {
				w, e := p.Take()
				if w1, e1 := s.take(); w != w1 || e != e1 || given[w] {
					t.Fatalf("New(%d, %d): Take() = %d, %d; want %d, %d; given back before: %v", n, most, w, e, w1, e1, given[w])
				}
			} else {
				w := at(next(n+1), next(min(most, 20)+2))
				if l := s.all(); len(l) > 0 && next(3) > 0 {
					w = l[next(len(l))]
				}
				e := p.Give(w)
				if e1 := s.give(w); e != e1 {
					t.Fatalf("New(%d, %d): Give(%d) = %d, want %d", n, most, w, e, e1)
				}
				if e == api.OK {
					given[w] = true
				}
			}
			s.check(t, p)
			for w := range given {
				if p.Live(w) {
					t.Fatalf("New(%d, %d): %d was given back and is Live", n, most, w)
				}
			}
		}
	}
}

// Promise 3.1: every sequence of eight calls on a small Pool, each a Take or the Give of one of the links that were ever handed out.
func TestEverySequence(t *testing.T) {
	for _, size := range [][2]int{{1, 0}, {1, 2}, {2, 0}, {2, 1}, {3, 1}, {3, 5}} {
		n, most := size[0], size[1]
		var from func(calls []int)
		from = func(calls []int) {
			p := made(t, n, most)
			s := &slots{most: most, tags: make([]int, n), taken: make([]bool, n), worn: make([]bool, n)}
			var links []uint64
			for _, c := range calls {
				if c < 0 {
					w, e := p.Take()
					if w1, e1 := s.take(); w != w1 || e != e1 {
						t.Fatalf("New(%d, %d), %v: Take() = %d, %d; want %d, %d", n, most, calls, w, e, w1, e1)
					}
					if e == api.OK {
						links = append(links, w)
					}
				} else if e, e1 := p.Give(links[c]), s.give(links[c]); e != e1 {
					t.Fatalf("New(%d, %d), %v: Give(%d) = %d, want %d", n, most, calls, links[c], e, e1)
				}
			}
			s.check(t, p)
			if len(calls) == 8 {
				return
			}
			for c := -1; c < len(links); c++ {
				from(append(slices.Clone(calls), c))
			}
		}
		from(nil)
	}
}

// Promise 3.2: every link of a slot, from its first to its last, is Live from its Take to its Give and never again.
func TestNeverLiveAgain(t *testing.T) {
	const most = 300
	p := made(t, 1, most)
	var l []uint64
	for tag := range most + 1 {
		if p.Live(at(0, tag)) {
			t.Errorf("tag %d is Live before its Take", tag)
		}
		take(t, p, 0, tag)
		l = append(l, at(0, tag))
		for i, w := range l {
			if p.Live(w) != (i == tag) {
				t.Errorf("tag %d while tag %d is taken: Live = %v", i, tag, i != tag)
			}
		}
		give(t, p, 0, tag)
		for i, w := range l {
			if p.Live(w) {
				t.Errorf("tag %d behind the Give of tag %d is Live", i, tag)
			}
		}
	}
	full(t, p)
	for _, w := range l {
		refuses(t, p, w)
	}
}

// W7: what is given back is wholly to be had again, and giving it back changes nothing for those who hold other slots.
func TestGivingBackIsUnseen(t *testing.T) {
	p := made(t, 6, 65535)
	for i := range 6 {
		take(t, p, i, 0)
	}
	kept := []uint64{at(1, 0), at(4, 0)}
	for tag := range 50 {
		for _, i := range []int{0, 2, 3, 5} {
			give(t, p, i, tag)
			if !p.Live(kept[0]) || !p.Live(kept[1]) {
				t.Fatal("a link that was not given back is no longer Live")
			}
		}
		tells(t, p, 4, 2, 0, kept...)
		for _, i := range []int{5, 3, 2, 0} {
			take(t, p, i, tag+1)
		}
		full(t, p)
		if p.Used() != 6 || !p.Live(kept[0]) || !p.Live(kept[1]) {
			t.Fatal("the Pool has lost a slot or a link")
		}
	}
}

// Section Ways: the list of free slots is made when it is first needed, which is at the first Take, and then never again: not when it is empty, not when all slots are back.
func TestListIsMadeOnce(t *testing.T) {
	p := made(t, 3, 9)
	p.Free()
	p.Used()
	p.Worn()
	p.All()
	p.Live(at(0, 0))
	p.Give(at(0, 0))
	if p.free != nil {
		t.Error("the list is made before it is needed")
	}
	take(t, p, 0, 0)
	if p.free == nil {
		t.Fatal("the list is not made")
	}
	first := &p.free[:1][0]
	take(t, p, 1, 0)
	take(t, p, 2, 0)
	full(t, p)
	full(t, p)
	for i := range 3 {
		give(t, p, i, 0)
	}
	take(t, p, 2, 1)
	if &p.free[:1][0] != first {
		t.Error("the list is made again")
	}
	tells(t, p, 2, 1, 0, at(2, 1))
}

// Promise 3.3: no call panics, whatever it is given, and every call ends.
func TestNoCallPanics(t *testing.T) {
	defer func() {
		if r := recover(); r != nil {
			t.Errorf("panic: %v", r)
		}
	}()
	odd := []int{math.MinInt, -1, 0, 1, 2, 4096, 4097, 65535, 65536, math.MaxInt}
	for _, n := range odd {
		for _, most := range odd {
			New(n, most)
		}
	}
	for _, n := range []int{1, 2, 4096} {
		for _, most := range []int{0, 65535} {
			p := made(t, n, most)
			for range 3 {
				for _, w := range oddWords() {
					p.Live(w)
					p.Give(w)
				}
				for range n + 1 {
					p.Take()
				}
				for _, w := range p.All() {
					p.Give(w)
				}
				p.Free()
				p.Used()
				p.Worn()
			}
		}
	}
}
