package chain

import (
	"math"
	"slices"
	"testing"

	"vinculum/api"
	"vinculum/arena"
	"vinculum/rec"
	"vinculum/word"
)

// ever is the word of for ever, and most the greatest number of slots of a Store and of links of a list, by the numbers of chapters 1, 6 and 9.
const (
	ever uint64 = 2305843009213693952
	most        = 4096
)

// The words of a shelf's arena: that of its Chain has a neighbour on either side.
const (
	before = iota
	first
	behind
	places
)

// What stands in the neighbours, which no call of the Chain may change.
const (
	left  = 77
	right = 78
)

// shelf is a Chain with what it is based on.
type shelf struct {
	*Chain
	s *rec.Store
	a *arena.Arena
}

// made is an empty Chain on a Store with so many slots.
func made(t *testing.T, slots int) *shelf {
	t.Helper()
	s, e := rec.New(slots)
	a, f := arena.New(places)
	c, g := New(s, a, first)
	if e != api.OK || f != api.OK || g != api.OK || c == nil {
		t.Fatalf("slots %d: %d, %d, %d", slots, e, f, g)
	}
	a.Store(before, left)
	a.Store(behind, right)
	return &shelf{Chain: c, s: s, a: a}
}

// at is the link of a slot with a tag, and txn the word of a transaction, by the numbers of chapter 1.
func at(slot, tag int) uint64 {
	return uint64(tag)*131072 + uint64(slot) + 1
}

func txn(id int) uint64 {
	return 4611686018427387904 + uint64(id)
}

// version makes a version whose fields tell its number i.
func (h *shelf) version(t *testing.T, i int) uint64 {
	t.Helper()
	w, e := h.s.Make(i%64, 7*i%65536, uint64(3*i+1), txn(i+1))
	if e != api.OK {
		t.Fatalf("version %d: %d", i, e)
	}
	return w
}

// versions makes n versions, which are in no Chain yet.
func (h *shelf) versions(t *testing.T, n int) []uint64 {
	t.Helper()
	var l []uint64
	for i := range n {
		l = append(l, h.version(t, i))
	}
	return l
}

// pushed makes n versions and pushes them; the list is that of the Chain, the newest one first.
func (h *shelf) pushed(t *testing.T, n int) []uint64 {
	t.Helper()
	l := h.versions(t, n)
	for _, w := range l {
		h.pushes(t, w)
	}
	slices.Reverse(l)
	return l
}

func (h *shelf) pushes(t *testing.T, link uint64) {
	t.Helper()
	if !h.Push(link) {
		t.Fatalf("Push(%#x) = false", link)
	}
}

func (h *shelf) cuts(t *testing.T, link uint64) {
	t.Helper()
	if !h.Cut(link) {
		t.Fatalf("Cut(%#x) = false", link)
	}
}

func (h *shelf) frees(t *testing.T, link uint64) {
	t.Helper()
	if e := h.s.Free(link); e != api.OK {
		t.Fatalf("Free(%#x) = %d", link, e)
	}
}

// leads sets the next link of a version past the Chain, as any holder of the Store may.
func (h *shelf) leads(t *testing.T, link, to uint64) {
	t.Helper()
	if e := h.s.Next(link, to); e != api.OK {
		t.Fatalf("Next(%#x, %#x) = %d", link, to, e)
	}
}

// holds holds what a Chain tells against the list of its links, whose first is what it begins in.
func (h *shelf) holds(t *testing.T, want ...uint64) {
	t.Helper()
	head := uint64(0)
	if len(want) > 0 {
		head = want[0]
	}
	h.begins(t, head, want...)
}

// begins holds the same, where the Chain may begin in a word that is no link of its list.
func (h *shelf) begins(t *testing.T, head uint64, want ...uint64) {
	t.Helper()
	if got := h.Head(); got != head {
		t.Errorf("Head() = %#x, want %#x", got, head)
	}
	if got := h.Links(); !slices.Equal(got, want) {
		t.Errorf("Links() = %#x, want %#x", got, want)
	}
	if got := h.Len(); got != len(want) {
		t.Errorf("Len() = %d, want %d", got, len(want))
	}
}

// state is all that a call may change: the words of the arena and the versions with their links.
type state struct {
	words, links []uint64
	versions     []api.Version
}

func (h *shelf) state() state {
	s := state{words: h.a.Words(), links: h.s.Links()}
	for _, w := range s.links {
		v, _ := h.s.Get(w)
		s.versions = append(s.versions, v)
	}
	return s
}

// stays holds that nothing has changed since an earlier state.
func (h *shelf) stays(t *testing.T, was state) {
	t.Helper()
	is := h.state()
	if !slices.Equal(is.words, was.words) || !slices.Equal(is.links, was.links) || !slices.Equal(is.versions, was.versions) {
		t.Errorf("%#x became %#x", was, is)
	}
}

// keeps holds that nothing but the first link and next links has changed since an earlier state.
func (h *shelf) keeps(t *testing.T, was state) {
	t.Helper()
	is := h.state()
	for _, s := range []*state{&was, &is} {
		s.words[first] = 0
		for i := range s.versions {
			s.versions[i].Next = 0
		}
	}
	if !slices.Equal(is.words, was.words) || !slices.Equal(is.links, was.links) || !slices.Equal(is.versions, was.versions) {
		t.Errorf("%#x became %#x", was, is)
	}
}

// refusesPush and refusesCut hold that a call returns false and changes nothing.
func (h *shelf) refusesPush(t *testing.T, link uint64) {
	t.Helper()
	was := h.state()
	if h.Push(link) {
		t.Errorf("Push(%#x) = true", link)
	}
	h.stays(t, was)
}

func (h *shelf) refusesCut(t *testing.T, link uint64) {
	t.Helper()
	was := h.state()
	if h.Cut(link) {
		t.Errorf("Cut(%#x) = true", link)
	}
	h.stays(t, was)
}

// oddWords are words of no slot and of slots beyond most Stores: 0, each greater power of two with its neighbours, and stamps.
func oddWords() []uint64 {
	l := []uint64{0, math.MaxUint64, ever, txn(1), txn(65535)}
	for i := 13; i < 64; i++ {
		p := uint64(1) << i
		l = append(l, p-1, p, p+1)
	}
	return l
}

// noPlaces are numbers of no word of an Arena with n words.
func noPlaces(n int) []int {
	return []int{math.MinInt, math.MinInt + 1, math.MinInt32, -n - 1, -n, -2, -1, n, n + 1, 2 * n, 1<<32 + n, math.MaxInt32, math.MaxInt - 1, math.MaxInt}
}

// Promise 9.1: New on each word of an Arena, the first and the last one of the greatest among them: the Chain is empty, and it is that word that its first link stands in.
func TestNew(t *testing.T) {
	for _, n := range []int{1, 2, 3, 64, 99999, 100000} {
		for _, i := range []int{0, 1, n / 2, n - 2, n - 1} {
			if i < 0 || i >= n {
				continue
			}
			s, _ := rec.New(2)
			a, _ := arena.New(n)
			c, e := New(s, a, i)
			if c == nil || e != api.OK {
				t.Fatalf("New at %d of %d words = %v, %d", i, n, c != nil, e)
			}
			h := &shelf{Chain: c, s: s, a: a}
			h.holds(t)
			w := h.version(t, 0)
			h.pushes(t, w)
			h.holds(t, w)
			for j, got := range a.Words() {
				if j == i && got != w || j != i && got != 0 {
					t.Fatalf("word %d of a Chain at %d became %#x", j, i, got)
				}
			}
		}
	}
}

// Promise 9.1: New without a Store, without an Arena or where there is no word.
func TestNewRefuses(t *testing.T) {
	s, _ := rec.New(1)
	refuses := func(s *rec.Store, a *arena.Arena, i int) {
		t.Helper()
		if c, e := New(s, a, i); c != nil || e != api.ErrArg {
			t.Errorf("New(%v, %v, %d) = %v, %d", s != nil, a != nil, i, c != nil, e)
		}
	}
	for _, n := range []int{1, 2, 100000} {
		a, _ := arena.New(n)
		for _, i := range noPlaces(n) {
			refuses(s, a, i)
			refuses(nil, a, i)
			refuses(s, nil, i)
			refuses(nil, nil, i)
		}
		for _, i := range []int{0, n - 1} {
			refuses(nil, a, i)
			refuses(s, nil, i)
			refuses(nil, nil, i)
		}
		if !slices.Equal(a.Words(), make([]uint64, n)) {
			t.Error("a word was changed")
		}
	}
}

// Promise 9.1: New takes a word as it is: a Chain on the word of another one has the versions of that one, and what either does, both tell.
func TestNewOnAWordInUse(t *testing.T) {
	h := made(t, 4)
	l := h.pushed(t, 3)
	was := h.state()
	c, e := New(h.s, h.a, first)
	if e != api.OK {
		t.Fatal(e)
	}
	h.stays(t, was)
	o := &shelf{Chain: c, s: h.s, a: h.a}
	o.holds(t, l...)
	o.refusesPush(t, l[1])
	x := h.version(t, 3)
	o.pushes(t, x)
	h.holds(t, x, l[0], l[1], l[2])
	h.refusesPush(t, x)
	h.cuts(t, x)
	h.cuts(t, l[1])
	o.holds(t, l[0], l[2])
	o.refusesCut(t, l[1])
}

// Promise 9.1: the example of the chapter.
func TestExample(t *testing.T) {
	s, _ := rec.New(2)
	a, _ := arena.New(1)
	c, e := New(s, a, 0)
	x, _ := s.Make(1, 2, 3, word.Forever())
	y, _ := s.Make(1, 4, 5, word.Forever())
	if e != api.OK || !c.Push(x) || !c.Push(y) || !slices.Equal(c.Links(), []uint64{y, x}) {
		t.Errorf("%d, Links() = %#x, want %#x", e, c.Links(), []uint64{y, x})
	}
}

// Promises 9.1 and 9.2: each version that is pushed is the first one, the others follow in their order, and nothing else changes, in whatever order of slots they come.
func TestPush(t *testing.T) {
	orders := [][]int{{0, 1, 2, 3}, {3, 2, 1, 0}, {1, 3, 0, 2}, {2, 0, 3, 1}, {0}, {3}, {2, 1}}
	for _, order := range orders {
		h := made(t, 5)
		all := h.versions(t, 5)
		var want []uint64
		for _, i := range order {
			was := h.state()
			h.pushes(t, all[i])
			want = slices.Insert(want, 0, all[i])
			h.holds(t, want...)
			h.keeps(t, was)
		}
	}
}

// Promise 9.1: Push takes any version that is Live, whatever its fields, its next link among them, and whatever tag its slot has.
func TestPushTakesAnyVersion(t *testing.T) {
	h := made(t, 3)
	l := h.pushed(t, 1)
	for tag := range 40 {
		w, e := h.s.Make(63, 65535, math.MaxUint64, uint64(tag))
		if e != api.OK || w != at(1, tag) {
			t.Fatalf("Make = %#x, %d", w, e)
		}
		for _, next := range []uint64{0, w, l[0], at(1, tag+1), math.MaxUint64} {
			h.leads(t, w, next)
			h.pushes(t, w)
			h.holds(t, w, l[0])
			h.cuts(t, w)
			h.holds(t, l[0])
		}
		h.frees(t, w)
	}
}

// Promise 9.1: Push of a version that is in the Chain changes nothing, be it the first, the last or between.
func TestPushRefusesWhatIsThere(t *testing.T) {
	for n := 1; n <= 6; n++ {
		h := made(t, 6)
		l := h.pushed(t, n)
		for range 2 {
			for _, w := range l {
				h.refusesPush(t, w)
				h.holds(t, l...)
			}
		}
	}
}

// refusesBoth holds that a word is the link of no version for Push and for Cut.
func (h *shelf) refusesBoth(t *testing.T, w uint64) {
	t.Helper()
	h.refusesPush(t, w)
	h.refusesCut(t, w)
}

// Promise 9.1: what is not Live is neither pushed nor cut: words of no slot, slots that have no version, tags of other versions, by an empty Chain and by one with versions.
func TestNoVersionIsRefused(t *testing.T) {
	for n := range 4 {
		h := made(t, 5)
		l := h.pushed(t, n)
		for _, w := range oddWords() {
			h.refusesBoth(t, w)
		}
		for slot := range 7 {
			for tag := range 3 {
				if slot >= n || tag > 0 {
					h.refusesBoth(t, at(slot, tag))
				}
			}
		}
		h.holds(t, l...)
	}
}

// Promise 9.1: a link with any other bit set, the mark among them, or with one that is not set, is not that of the version, in the Chain or not.
func TestOtherBitsAreRefused(t *testing.T) {
	h := made(t, 8)
	l := h.pushed(t, 4)
	h.frees(t, l[0])
	h.a.Store(first, l[1])
	w := h.version(t, 0) // slot 3 with tag 1, not in the Chain
	for b := range 64 {
		for _, x := range []uint64{w ^ 1<<b, l[1] ^ 1<<b} {
			if _, ok := h.s.Get(x); !ok {
				h.refusesBoth(t, x)
			}
		}
	}
	for _, x := range []uint64{w, l[1], l[2], l[3]} {
		h.refusesBoth(t, word.Mark(x))
		h.refusesBoth(t, ^x)
	}
	h.refusesCut(t, w)
	h.holds(t, l[1:]...)
	h.pushes(t, w)
	h.holds(t, w, l[1], l[2], l[3])
}

// Promise 9.1: a version that was freed is neither pushed nor cut, whether it was in the Chain or never, nor when its slot has another version.
func TestFreedIsRefused(t *testing.T) {
	h := made(t, 3)
	l := h.pushed(t, 2)
	never := h.version(t, 2)
	h.cuts(t, l[0])
	for _, w := range []uint64{never, l[0]} {
		h.frees(t, w)
		h.refusesBoth(t, w)
		x := h.version(t, 5)
		h.refusesBoth(t, w)
		h.pushes(t, x)
		h.refusesBoth(t, w)
		h.holds(t, x, l[1])
		h.cuts(t, x)
		h.refusesBoth(t, w)
		h.frees(t, x)
	}
	h.holds(t, l[1])
}

// Promise 9.1: links of another Store are not those of the Chain's own.
func TestLinksOfAnotherStore(t *testing.T) {
	h, o := made(t, 2), made(t, 4)
	l, m := h.pushed(t, 1), o.pushed(t, 4)
	for _, w := range m {
		if w != l[0] {
			h.refusesBoth(t, w)
		}
	}
	h.holds(t, l...)
	o.holds(t, m...)
}

// Promise 9.1: Head tells the first link behind each change, and 0 where the Chain is empty, at first and again.
func TestHead(t *testing.T) {
	h := made(t, 3)
	l := h.versions(t, 3)
	tells := func(want uint64) {
		t.Helper()
		if got := h.Head(); got != want || h.a.Words()[first] != want {
			t.Errorf("Head() = %#x, want %#x", got, want)
		}
	}
	tells(0)
	h.pushes(t, l[0])
	tells(l[0])
	h.pushes(t, l[1])
	tells(l[1])
	h.pushes(t, l[2])
	tells(l[2])
	h.cuts(t, l[1])
	tells(l[2])
	h.cuts(t, l[2])
	tells(l[0])
	h.cuts(t, l[0])
	tells(0)
	h.pushes(t, l[1])
	tells(l[1])
}

// Promise 9.1: the list ends before a version that was freed without being cut, at each place of it, also when its slot has another version, and what is pushed then comes ahead of what is left.
func TestLinksEndBeforeAFreedVersion(t *testing.T) {
	for n := 1; n <= 5; n++ {
		for gone := range n {
			for again := range 2 {
				h := made(t, 7)
				l := h.pushed(t, n)
				h.frees(t, l[gone])
				if again == 1 {
					if w := h.version(t, 9); w&131071 != l[gone]&131071 {
						t.Fatalf("the slot of %#x went to none", l[gone])
					}
				}
				h.begins(t, l[0], l[:gone]...)
				h.refusesBoth(t, l[gone])
				for _, w := range l[gone+1:] {
					h.refusesCut(t, w)
				}
				x := h.version(t, 8)
				h.pushes(t, x)
				h.holds(t, append([]uint64{x}, l[:gone]...)...)
				for _, w := range l[:gone] {
					h.refusesPush(t, w)
				}
				for _, w := range l[gone+1:] {
					h.pushes(t, w)
					h.cuts(t, w)
				}
				for i, w := range l[:gone] {
					h.cuts(t, w)
					h.holds(t, append([]uint64{x}, l[i+1:gone]...)...)
				}
				h.cuts(t, x)
				h.begins(t, l[gone])
			}
		}
	}
}

// Promise 9.1: the first link is what stands in the word, whoever wrote it there: the list begins with it, and is empty if it is not Live.
func TestTheWordIsTheFirstLink(t *testing.T) {
	h := made(t, 8)
	l := h.pushed(t, 4)
	for i, w := range l {
		h.a.Store(first, w)
		h.holds(t, l[i:]...)
		for _, x := range l[:i] {
			h.refusesCut(t, x)
		}
	}
	h.a.Store(first, 0)
	h.holds(t)
	for _, w := range append(oddWords(), word.Mark(l[0]), at(0, 1), at(7, 0), ^l[0]) {
		h.a.Store(first, w)
		h.begins(t, w)
		for _, x := range l {
			h.refusesCut(t, x)
		}
		h.refusesBoth(t, w)
		h.pushes(t, l[2])
		h.holds(t, l[2])
		h.cuts(t, l[2])
		h.begins(t, w)
	}
}

// Promise 9.1: the versions are connected by their next links, whoever set them: the list ends before one that is not Live.
func TestTheNextLinkIsTheNextOne(t *testing.T) {
	h := made(t, 8)
	l := h.pushed(t, 4)
	for _, w := range append(oddWords(), word.Mark(l[2]), at(0, 1), at(7, 0), ^l[2]) {
		h.leads(t, l[1], w)
		h.holds(t, l[0], l[1])
		h.refusesCut(t, l[2])
		h.refusesCut(t, l[3])
		h.refusesBoth(t, w)
		h.cuts(t, l[1])
		h.holds(t, l[0])
		h.cuts(t, l[0])
		h.begins(t, w)
		h.a.Store(first, 0)
		h.pushes(t, l[1])
		h.pushes(t, l[0])
	}
	h.leads(t, l[1], l[3])
	h.holds(t, l[0], l[1], l[3])
	h.leads(t, l[3], l[2])
	h.leads(t, l[2], 0)
	h.holds(t, l[0], l[1], l[3], l[2])
}

// Promise 9.1: a list has at most 4,096 links, as many as a Store has versions; all of them can be cut, the last one first or the first one first.
func TestMostLinks(t *testing.T) {
	for _, n := range []int{most - 1, most} {
		h := made(t, most)
		l := h.pushed(t, n)
		h.holds(t, l...)
		for _, i := range []int{0, 1, n / 2, n - 1} {
			h.refusesPush(t, l[i])
		}
		if n < most {
			x := h.version(t, n)
			h.pushes(t, x)
			l = append([]uint64{x}, l...)
			h.holds(t, l...)
		}
		for _, i := range []int{len(l) - 1, len(l) - 2, len(l) / 2, 1, 0} {
			h.cuts(t, l[i])
			l = slices.Delete(l, i, i+1)
			h.holds(t, l...)
		}
	}
}

// Promise 9.1: Links shares nothing with the Chain, nor with what an earlier call returned, the room behind its links included.
func TestLinksAreLentToNobody(t *testing.T) {
	h := made(t, 4)
	want := h.pushed(t, 3)
	l, m := h.Links(), h.Links()
	for i := range l {
		l[i] = 77
	}
	l = append(l, 78, 79)
	if !slices.Equal(m, want) {
		t.Errorf("the other list became %#x", m)
	}
	h.holds(t, want...)
	h.cuts(t, want[1])
	h.pushes(t, h.version(t, 3))
	if !slices.Equal(m, want) || !slices.Equal(l, []uint64{77, 77, 77, 78, 79}) {
		t.Errorf("lists from before became %#x and %#x", m, l)
	}
}

// Promises 9.1 and 9.2: Cut takes one version out, at each place of the Chain, and leaves the others in their order; it frees none and changes nothing else, and what was cut is no longer there to be cut.
func TestCut(t *testing.T) {
	for n := 1; n <= 6; n++ {
		for gone := range n {
			h := made(t, 7)
			l := h.pushed(t, n)
			was := h.state()
			h.cuts(t, l[gone])
			h.keeps(t, was)
			rest := slices.Delete(slices.Clone(l), gone, gone+1)
			h.holds(t, rest...)
			h.refusesCut(t, l[gone])
			for _, w := range rest {
				h.refusesPush(t, w)
			}
			h.pushes(t, l[gone])
			h.holds(t, append([]uint64{l[gone]}, rest...)...)
			h.keeps(t, was)
		}
	}
}

// Promise 9.1: versions are cut in each order, until the Chain is empty, and in each order pushed again.
func TestCutInEveryOrder(t *testing.T) {
	var orders func(order []int)
	orders = func(order []int) {
		if len(order) < 4 {
			for i := range 4 {
				if !slices.Contains(order, i) {
					orders(append(slices.Clone(order), i))
				}
			}
			return
		}
		h := made(t, 4)
		l := h.pushed(t, 4)
		rest := slices.Clone(l)
		for _, i := range order {
			h.cuts(t, l[i])
			rest = slices.DeleteFunc(rest, func(w uint64) bool { return w == l[i] })
			h.holds(t, rest...)
		}
		for _, i := range order {
			h.pushes(t, l[i])
			rest = slices.Insert(rest, 0, l[i])
			h.holds(t, rest...)
		}
	}
	orders(nil)
}

// Promise 9.1: Cut of a version that is Live but not in the Chain changes nothing: one that was never pushed, one that was cut, though they lead to versions of the Chain, and one of another Chain.
func TestCutRefusesWhatIsNotThere(t *testing.T) {
	h := made(t, 8)
	all := h.versions(t, 6)
	c, _ := New(h.s, h.a, before)
	h.a.Store(before, 0)
	o := &shelf{Chain: c, s: h.s, a: h.a}
	refusesAll := func() {
		t.Helper()
		for _, next := range []uint64{0, all[0], all[1], all[2], all[3], all[4]} {
			h.leads(t, all[0], next)
			h.refusesCut(t, all[0])
		}
		h.refusesCut(t, all[3])
		h.refusesCut(t, all[4])
	}
	o.pushes(t, all[4])
	refusesAll()
	h.pushes(t, all[3])
	h.cuts(t, all[3])
	h.pushes(t, all[1])
	refusesAll()
	h.pushes(t, all[2])
	refusesAll()
	h.holds(t, all[2], all[1])
	o.holds(t, all[4])
}

// Promise 9.1: Chains in the words of one Arena, with versions of one Store, have nothing else in common.
func TestChainsAreApart(t *testing.T) {
	const chains, each = 8, 5
	s, _ := rec.New(chains * each)
	a, _ := arena.New(chains)
	var all []*shelf
	for i := range chains {
		c, e := New(s, a, i)
		if e != api.OK {
			t.Fatal(e)
		}
		all = append(all, &shelf{Chain: c, s: s, a: a})
	}
	want := make([][]uint64, chains)
	told := func() {
		t.Helper()
		for i, h := range all {
			h.holds(t, want[i]...)
		}
	}
	for n := range each {
		for i, h := range all {
			w := h.version(t, n*chains+i)
			h.pushes(t, w)
			want[i] = slices.Insert(want[i], 0, w)
			told()
		}
	}
	for i, h := range all {
		for j, o := range all {
			if i != j {
				o.refusesCut(t, want[i][i%each])
			}
		}
		h.cuts(t, want[i][i%each])
		want[i] = slices.Delete(want[i], i%each, i%each+1)
		told()
	}
}

// Promise 9.1: what only tells changes nothing, however often it is asked.
func TestTellingChangesNothing(t *testing.T) {
	h := made(t, 4)
	l := h.pushed(t, 3)
	h.frees(t, l[2])
	was := h.state()
	for range 5 {
		h.Head()
		h.Links()
		h.Len()
	}
	h.stays(t, was)
	h.holds(t, l[:2]...)
}

// plain is what the document says of a Chain, told by a list that is searched from end to end: the links that were put and not taken out, and those that are Live.
type plain struct {
	list []uint64
	live []uint64
}

// in are the links that the Chain still reaches: those before the first one that is not Live.
func (p *plain) in() []uint64 {
	for i, w := range p.list {
		if !slices.Contains(p.live, w) {
			return p.list[:i]
		}
	}
	return p.list
}

func (p *plain) push(link uint64) bool {
	if !slices.Contains(p.live, link) || slices.Contains(p.in(), link) {
		return false
	}
	p.list = slices.Insert(p.list, 0, link)
	return true
}

func (p *plain) cut(link uint64) bool {
	i := slices.Index(p.in(), link)
	if i < 0 {
		return false
	}
	p.list = slices.Delete(p.list, i, i+1)
	return true
}

func (p *plain) head() uint64 {
	if len(p.list) == 0 {
		return 0
	}
	return p.list[0]
}

// The calls of the runs below.
const (
	callMake = iota
	callFree
	callPush
	callCut
	callKinds
)

type call struct {
	kind int
	link uint64
}

// both makes one call of a Chain or its Store and of the plain one, holds their answers against each other, and returns the link of a version that was made.
func both(t *testing.T, h *shelf, p *plain, c call) uint64 {
	t.Helper()
	var ok, want bool
	made := uint64(0)
	switch c.kind {
	case callMake:
		made, _ = h.s.Make(1, 2, 3, ever)
		if made != 0 {
			p.live = append(p.live, made)
		}
	case callFree:
		ok = h.s.Free(c.link) == api.OK
		want = slices.Contains(p.live, c.link)
		p.live = slices.DeleteFunc(p.live, func(w uint64) bool { return w == c.link })
	case callPush:
		ok, want = h.Push(c.link), p.push(c.link)
	case callCut:
		ok, want = h.Cut(c.link), p.cut(c.link)
	}
	if ok != want {
		t.Fatalf("%v = %v", c, ok)
	}
	return made
}

// same holds all that a Chain tells against the plain one.
func same(t *testing.T, h *shelf, p *plain) {
	t.Helper()
	h.begins(t, p.head(), p.in()...)
	if h.s.Used() != len(p.live) {
		t.Errorf("Used() = %d, want %d", h.s.Used(), len(p.live))
	}
	if l := h.a.Words(); l[before] != left || l[behind] != right {
		t.Errorf("the neighbours became %#x", l)
	}
}

// Promises 9.1 and 9.2: every sequence of six calls behind two Makes, each a Make or a call with one of the links that were ever handed out.
func TestEverySequence(t *testing.T) {
	var from func(calls []call)
	from = func(calls []call) {
		h, p := made(t, 3), &plain{}
		var links []uint64
		for _, c := range calls {
			if w := both(t, h, p, c); w != 0 {
				links = append(links, w)
			}
		}
		same(t, h, p)
		if len(calls) == 8 || t.Failed() {
			return
		}
		var then []call
		if len(links) < 4 {
			then = append(then, call{kind: callMake})
		}
		for _, w := range links {
			then = append(then, call{callFree, w}, call{callPush, w}, call{callCut, w})
		}
		for _, c := range then {
			from(append(calls[:len(calls):len(calls)], c))
		}
	}
	from([]call{{kind: callMake}, {kind: callMake}})
}

// Promises 9.1 and 9.2: long runs of calls, against the list above: each call answers as it does, and what is told behind it is the same.
func TestRuns(t *testing.T) {
	seed := uint64(1)
	next := func(m int) int {
		seed = seed*6364136223846793005 + 1442695040888963407
		return int(seed >> 33 % uint64(m))
	}
	for range 1000 {
		slots := 1 + next(12)
		h, p := made(t, slots), &plain{}
		links := []uint64{0, at(slots, 0)}
		frees := next(4) > 0
		for range 200 {
			c := call{kind: next(callKinds), link: links[next(len(links))]}
			if n := len(p.live); n > 0 && next(4) > 0 {
				c.link = p.live[next(n)]
			}
			if c.kind == callFree && (!frees || next(3) > 0) {
				c.kind = callPush
			}
			if w := both(t, h, p, c); w != 0 {
				links = append(links, w)
			}
			same(t, h, p)
		}
	}
}

// walk is the list of links that a plain table of next links leads to from a given one on, up to a number of links.
func walk(from uint64, next map[uint64]uint64, n int) []uint64 {
	var l []uint64
	for len(l) < n {
		to, ok := next[from]
		if !ok {
			break
		}
		l = append(l, from)
		from = to
	}
	return l
}

// without is the start of a long list from which a link is taken out.
func without(l []uint64, link uint64) []uint64 {
	l = slices.DeleteFunc(slices.Clone(l), func(w uint64) bool { return w == link })
	return l[:min(len(l), most)]
}

// graph is a Chain on three versions, the next link of each and the first link set past it: 0 or one of the three, by the digits of a number.
func graph(t *testing.T, number int) (*shelf, []uint64, map[uint64]uint64) {
	t.Helper()
	h := made(t, 4)
	l := h.versions(t, 3)
	choice := append([]uint64{0}, l...)
	next := map[uint64]uint64{}
	for _, w := range l {
		next[w] = choice[number%4]
		number /= 4
		h.leads(t, w, next[w])
	}
	h.a.Store(first, choice[number%4])
	return h, l, next
}

// Promises 9.1 and 9.3: next links that lead anywhere, in rings of one, two or three versions among them, behind versions ahead of the ring or not: Links tells at most 4,096 of them, Push refuses those that are there and puts others ahead, and Cut takes a version out wherever it is met; every call ends.
func TestRings(t *testing.T) {
	for number := range 4 * 4 * 4 * 4 {
		h, l, next := graph(t, number)
		head := h.a.Words()[first]
		long := walk(head, next, 3*most)
		h.begins(t, head, long[:min(len(long), most)]...)
		for _, w := range l {
			h, _, _ := graph(t, number)
			if slices.Contains(long, w) {
				h.refusesPush(t, w)
				h.cuts(t, w)
				rest := without(long, w)
				h.holds(t, rest...)
				h.refusesCut(t, w)
				continue
			}
			h.refusesCut(t, w)
			h.pushes(t, w)
			l := append([]uint64{w}, long...)
			h.holds(t, l[:min(len(l), most)]...)
			h.cuts(t, w)
			h.begins(t, head, long[:min(len(long), most)]...)
		}
		if t.Failed() {
			t.Fatalf("graph %d", number)
		}
	}
}

// Promises 9.1 and 9.3: a ring of all versions that there can be, and one of the last of them.
func TestGreatRings(t *testing.T) {
	for _, to := range []int{0, most / 2, most - 1} {
		h := made(t, most)
		l := h.pushed(t, most)
		h.leads(t, l[most-1], l[to])
		h.holds(t, l...)
		h.refusesPush(t, l[most-1])
		h.refusesPush(t, l[0])
		gone := l[to]
		h.cuts(t, gone)
		ring := slices.DeleteFunc(slices.Clone(l[to:]), func(w uint64) bool { return w == gone })
		want := slices.Clone(l[:to])
		for len(want) < most && len(ring) > 0 {
			want = append(want, ring...)
		}
		h.holds(t, want[:min(len(want), most)]...)
		h.refusesCut(t, gone)
	}
}

// Promise 9.3: no call panics, whatever it is given and whatever has been done, to its word and its versions past it among that.
func TestNoCallPanics(t *testing.T) {
	defer func() {
		if r := recover(); r != nil {
			t.Errorf("panic: %v", r)
		}
	}()
	s, _ := rec.New(3)
	none := &arena.Arena{}
	for _, i := range append(noPlaces(3), 0, 1, 2) {
		for _, a := range []*arena.Arena{nil, none} {
			New(s, a, i)
			New(nil, a, i)
		}
	}
	h := made(t, 3)
	l := h.pushed(t, 3)
	h.frees(t, l[1])
	odd := append(oddWords(), l...)
	for _, head := range odd {
		for _, next := range odd {
			h.a.Store(first, head)
			h.s.Next(l[0], next)
			for _, w := range []uint64{head, next, l[0], l[1], l[2]} {
				h.Cut(w)
				h.Push(w)
				h.Head()
				h.Len()
			}
		}
	}
}
