package reads

import (
	"math"
	"slices"
	"testing"

	"vinculum/api"
)

// keys is how many keys there are, and spans how many spans a Set has room for, by the numbers of the chapter.
const (
	keys  = 64
	spans = 64
)

// plain is what the document says of a Set: every read of a key, in order, and the spans.
type plain struct {
	adds  []read
	spans []api.Scan
}

func key(n int) bool { return n >= 0 && n <= 63 }

// add tells what Add is to return, by the sentences of the chapter.
func (p *plain) add(n int, link uint64) api.Errno {
	if !key(n) {
		return api.ErrArg
	}
	p.adds = append(p.adds, read{n, link})
	return api.OK
}

// span tells what Span is to return.
func (p *plain) span(lo, hi int, links []uint64) api.Errno {
	switch {
	case !key(lo), !key(hi), lo > hi:
		return api.ErrArg
	case len(p.spans) == 64:
		return api.ErrMany
	}
	p.spans = append(p.spans, api.Scan{Lo: lo, Hi: hi, Links: append([]uint64{}, links...)})
	return api.OK
}

// list tells the keys that were added, each where it was first.
func (p *plain) list() []int {
	var l []int
	for _, r := range p.adds {
		if !slices.Contains(l, r.key) {
			l = append(l, r.key)
		}
	}
	return l
}

// link tells the first link that was added for a key.
func (p *plain) link(n int) (uint64, bool) {
	i := slices.IndexFunc(p.adds, func(r read) bool { return r.key == n })
	if i < 0 {
		return 0, false
	}
	return p.adds[i].link, true
}

// covers reports whether a key was added or lies in a span.
func (p *plain) covers(n int) bool {
	for _, x := range p.spans {
		if n >= x.Lo && n <= x.Hi {
			return true
		}
	}
	_, ok := p.link(n)
	return ok
}

func sameSpan(a, b api.Scan) bool {
	return a.Lo == b.Lo && a.Hi == b.Hi && slices.Equal(a.Links, b.Links)
}

// pair is a Set beside the plain one.
type pair struct {
	*Set
	p plain
}

// made is an empty Set.
func made(t *testing.T) *pair {
	t.Helper()
	s := New()
	if s == nil {
		t.Fatal("New() = nil")
	}
	return &pair{Set: s}
}

// holds holds the lists that a Set tells, which it tells each time, and how long they are.
func (x *pair) holds(t *testing.T) {
	t.Helper()
	list := x.p.list()
	for range 2 {
		if l := x.Keys(); !slices.Equal(l, list) {
			t.Errorf("Keys() = %v, want %v", l, list)
		}
		if l := x.Spans(); !slices.EqualFunc(l, x.p.spans, sameSpan) {
			t.Errorf("Spans() = %v, want %v", l, x.p.spans)
		}
		if n := x.Len(); n != len(list)+len(x.p.spans) {
			t.Errorf("Len() = %d, want %d and %d", n, len(list), len(x.p.spans))
		}
	}
}

// asks holds what a Set tells of one number.
func (x *pair) asks(t *testing.T, n int) {
	t.Helper()
	link, ok := x.Link(n)
	if want, there := x.p.link(n); link != want || ok != there {
		t.Errorf("Link(%d) = %d, %v; want %d, %v", n, link, ok, want, there)
	}
	if got, want := x.Covers(n), x.p.covers(n); got != want {
		t.Errorf("Covers(%d) = %v, want %v", n, got, want)
	}
}

// tells holds all that a Set tells, of keys and of what is no key.
func (x *pair) tells(t *testing.T) {
	t.Helper()
	x.holds(t)
	for n := range keys {
		x.asks(t, n)
	}
	for _, n := range noKeys() {
		x.asks(t, n)
	}
}

// adds records a key in both.
func (x *pair) adds(t *testing.T, n int, link uint64) api.Errno {
	t.Helper()
	e := x.Add(n, link)
	if want := x.p.add(n, link); e != want {
		t.Errorf("Add(%d, %d) = %d, want %d", n, link, e, want)
	}
	return e
}

// scans records a span in both.
func (x *pair) scans(t *testing.T, lo, hi int, links ...uint64) api.Errno {
	t.Helper()
	e := x.Span(lo, hi, links)
	if want := x.p.span(lo, hi, links); e != want {
		t.Errorf("Span(%d, %d, %v) = %d, want %d", lo, hi, links, e, want)
	}
	return e
}

// The numbers that are no key: those next to the bounds, those that wrap round to a key in fewer bits, and the ends of the kind int.
func noKeys() []int {
	return []int{math.MinInt, math.MinInt + 1, math.MinInt + 5, math.MinInt32, -1 << 32, -1<<32 + 5, -65536, -64, -63, -2, -1, 64, 65, 66, 127, 128, 256, 260, 65536, math.MaxInt32, 1 << 32, 1<<32 + 5, math.MaxInt - 1, math.MaxInt}
}

// someLinks are none, one, and words of every kind.
func someLinks() []uint64 {
	return []uint64{0, 1, 2, 7, 63, 64, 1<<32 - 1, 1 << 32, 1 << 61, 1 << 62, 1 << 63, 1<<63 + 1, math.MaxUint64 - 1, math.MaxUint64}
}

// filled is a Set with some keys, one of them without a version, and three spans.
func filled(t *testing.T) *pair {
	t.Helper()
	x := made(t)
	x.adds(t, 7, 5)
	x.scans(t, 3, 5, 1, 2)
	x.adds(t, 2, 0)
	x.scans(t, 63, 63)
	x.adds(t, 0, math.MaxUint64)
	x.scans(t, 4, 9, 0, 0, 7)
	return x
}

// full is a Set with all keys and as many spans as there is room for.
func full(t *testing.T) *pair {
	t.Helper()
	x := made(t)
	for n := range keys {
		x.adds(t, 63-n, uint64(n))
	}
	for n := range spans {
		if e := x.scans(t, n/2, n, uint64(n)); e != api.OK {
			t.Fatalf("span %d: %d", n, e)
		}
	}
	return x
}

// Promise 13.1: the example of the chapter.
func TestExample(t *testing.T) {
	s := New()
	s.Add(3, 7)
	s.Add(3, 8)
	if link, ok := s.Link(3); link != 7 || !ok {
		t.Error(link, ok)
	}
}

// Promise 13.1: a new Set is empty, whatever other ones have.
func TestNewIsEmpty(t *testing.T) {
	made(t).tells(t)
	x, y := filled(t), made(t)
	y.tells(t)
	y.adds(t, 7, 6)
	y.scans(t, 10, 12, 8)
	x.tells(t)
	y.tells(t)
}

// Promises 13.1 and 13.2: each key with each link, alone in its Set; the link stays, whichever comes after it, a link of 0 too.
func TestEveryKeyAndLink(t *testing.T) {
	for n := range keys {
		for _, first := range someLinks() {
			x := made(t)
			x.adds(t, n, first)
			x.holds(t)
			for _, link := range someLinks() {
				x.adds(t, n, link)
				x.asks(t, n)
			}
			if link, ok := x.Link(n); link != first || !ok || x.Len() != 1 {
				t.Errorf("key %d: Link() = %d, %v, Len() = %d; want %d", n, link, ok, x.Len(), first)
			}
			x.holds(t)
		}
	}
}

// Promises 13.1 and 13.2: keys are told in the order in which they were added first, up, down and mixed, also after all of them have been added again in another order.
func TestOrderOfKeys(t *testing.T) {
	for _, factor := range []int{1, 63, 5, 27} {
		x := made(t)
		for n := range keys {
			x.adds(t, n*factor%keys, uint64(100+n))
			x.holds(t)
		}
		for _, again := range []int{63, 1, 11} {
			for n := range keys {
				x.adds(t, n*again%keys, uint64(n))
			}
			x.tells(t)
		}
		for i, n := range x.Keys() {
			if link, ok := x.Link(n); n != i*factor%keys || link != uint64(100+i) || !ok {
				t.Errorf("times %d: key %d is %d with %d, %v", factor, i, n, link, ok)
			}
		}
	}
}

// Promise 13.1: what is no key is not added, and changes nothing.
func TestAddRefuses(t *testing.T) {
	for _, x := range []*pair{made(t), filled(t), full(t)} {
		for _, n := range noKeys() {
			for _, link := range someLinks() {
				if e := x.adds(t, n, link); e != api.ErrArg {
					t.Errorf("Add(%d, %d) = %d", n, link, e)
				}
			}
			x.holds(t)
		}
		x.tells(t)
	}
}

// Promise 13.1: every range of keys is recorded, with its bounds, and covers what lies in it and nothing else.
func TestEverySpan(t *testing.T) {
	for lo := range keys {
		for hi := lo; hi < keys; hi++ {
			x := made(t)
			if e := x.scans(t, lo, hi, uint64(lo), uint64(hi)); e != api.OK {
				t.Errorf("Span(%d, %d) = %d", lo, hi, e)
			}
			x.tells(t)
		}
	}
}

// Promise 13.1: no span from or to what is no key, or where lo is above hi; it changes nothing, also where there is no room for one.
func TestSpanRefuses(t *testing.T) {
	for _, x := range []*pair{made(t), filled(t), full(t)} {
		refuses := func(lo, hi int) {
			if e := x.scans(t, lo, hi, 1); e != api.ErrArg {
				t.Errorf("Span(%d, %d) = %d", lo, hi, e)
			}
		}
		for _, n := range noKeys() {
			for k := range keys {
				refuses(n, k)
				refuses(k, n)
			}
			for _, m := range noKeys() {
				refuses(n, m)
			}
		}
		for hi := range keys {
			for lo := hi + 1; lo < keys; lo++ {
				refuses(lo, hi)
			}
		}
		x.tells(t)
	}
}

// Promise 13.1: there is room for 64 spans, be they alike or not, and for none more; keys are added all the same, and do not count as spans.
func TestRoomForSpans(t *testing.T) {
	for _, step := range []int{0, 1} {
		x := made(t)
		for n := range spans {
			x.adds(t, n, 1)
			if e := x.scans(t, step*n, 63, uint64(n)); e != api.OK {
				t.Fatalf("span %d: %d", n, e)
			}
			x.holds(t)
		}
		for n := range 70 {
			if e := x.scans(t, n%keys, 63, 5); e != api.ErrMany {
				t.Errorf("one more: %d", e)
			}
		}
		x.tells(t)
	}
	x := made(t)
	for range spans + 1 {
		x.scans(t, 9, 20)
	}
	x.adds(t, 30, 4)
	x.adds(t, 12, 4)
	x.tells(t)
}

// Promise 13.1: a span has its versions as they were handed in: none, many, the same one again, in any order.
func TestLinksOfSpans(t *testing.T) {
	x := made(t)
	long := make([]uint64, 5000)
	for i := range long {
		long[i] = uint64(i*i) << 20
	}
	for _, l := range [][]uint64{nil, {}, {0}, {0, 0}, {9, 8, 7}, {7, 8, 7}, someLinks(), long} {
		x.scans(t, 1, 2, l...)
	}
	x.tells(t)
}

// Promise 13.1: neither a key nor a span stands for the other: Link and Keys know nothing of spans, and a span that is read again is another one.
func TestKeysBesideSpans(t *testing.T) {
	x := made(t)
	x.scans(t, 10, 20, 4)
	if link, ok := x.Link(15); link != 0 || ok || len(x.Keys()) != 0 || x.Len() != 1 {
		t.Error(link, ok, x.Keys(), x.Len())
	}
	x.adds(t, 15, 6)
	x.scans(t, 10, 20, 5)
	x.scans(t, 15, 15, 6)
	x.adds(t, 21, 0)
	x.adds(t, 15, 7)
	if x.Len() != 5 || !x.Covers(21) || x.Covers(22) || x.Covers(9) {
		t.Error(x.Len(), x.Spans())
	}
	x.tells(t)
}

// spoil writes over a list and over the room behind it.
func spoil[T any](l []T, with T) {
	l = l[:cap(l)]
	for i := range l {
		l[i] = with
	}
}

// Promise 13.1: a Set keeps nothing of a list that was handed in, and changes neither it nor the room behind it.
func TestArgumentsApart(t *testing.T) {
	for _, n := range []int{0, 1, 3} {
		room := []uint64{1, 2, 3, 4, 5}
		x := made(t)
		x.scans(t, 1, 9, room[:n]...)
		x.scans(t, 2, 9, room[:n]...)
		x.Spans()
		if !slices.Equal(room, []uint64{1, 2, 3, 4, 5}) {
			t.Error(room)
		}
		spoil(room, 77)
		x.tells(t)
	}
}

// Promise 13.1: what a Set tells is the caller's own: neither the Set nor another answer has it.
func TestResultsApart(t *testing.T) {
	x := filled(t)
	k, s := x.Keys(), x.Spans()
	for range 2 {
		list, l := x.Keys(), x.Spans()
		spoil(list, 77)
		spoil(l[0].Links, 77)
		if !sameSpan(l[2], x.p.spans[2]) {
			t.Error("lists of one answer share memory:", l)
		}
		for _, p := range l {
			spoil(p.Links, 77)
		}
		spoil(l, api.Scan{Lo: 77})
		x.tells(t)
	}
	if !slices.Equal(k, x.p.list()) || !slices.EqualFunc(s, x.p.spans, sameSpan) {
		t.Error("answers share memory:", k, s)
	}
	x.adds(t, 30, 1)
	x.scans(t, 31, 32, 5)
	spoil(k, 77)
	spoil(s, api.Scan{Lo: 77})
	x.tells(t)
}

// Section Ways: a key is kept once, by its Once, which is done with the first Add of the key and by nothing else.
func TestKeptByTheOnce(t *testing.T) {
	x := made(t)
	x.adds(t, 5, 7)
	x.scans(t, 0, 63, 1)
	x.adds(t, 64, 7)
	x.adds(t, -1, 7)
	x.tells(t)
	for n := range keys {
		open := false
		x.once[n].Do(func() { open = true })
		if open == (n == 5) {
			t.Errorf("key %d: open is %v", n, open)
		}
	}
	for n := range keys {
		if e := x.Add(n, 9); e != api.OK {
			t.Error(n, e)
		}
	}
	x.tells(t)
}

// Promises 13.1 and 13.2: every sequence of six calls that add two keys with two links or record a span.
func TestEverySequence(t *testing.T) {
	const calls = 6
	all := []func(x *pair){
		func(x *pair) { x.adds(t, 0, 0) },
		func(x *pair) { x.adds(t, 0, 4) },
		func(x *pair) { x.adds(t, 63, 4) },
		func(x *pair) { x.adds(t, 63, 9) },
		func(x *pair) { x.scans(t, 0, 0, 4) },
		func(x *pair) { x.scans(t, 1, 63) },
		func(x *pair) { x.scans(t, 63, 0, 9) },
	}
	choices := 1
	for range calls {
		choices *= len(all)
	}
	for number := range choices {
		x := made(t)
		for rest, n := number, 0; n < calls; n++ {
			all[rest%len(all)](x)
			rest /= len(all)
		}
		x.holds(t)
		for _, n := range []int{-1, 0, 1, 62, 63, 64} {
			x.asks(t, n)
		}
		if t.Failed() {
			t.Fatalf("sequence %d", number)
		}
	}
}

// draws is a row of numbers that look drawn.
type draws uint64

func (d *draws) draw(m int) int {
	*d = *d*6364136223846793005 + 1442695040888963407
	return int(*d >> 33 % draws(m))
}

// number is mostly a key, and sometimes none.
func (d *draws) number() int {
	if d.draw(20) == 0 {
		return noKeys()[d.draw(len(noKeys()))]
	}
	return d.draw(keys)
}

// links is a list of few or no links.
func (d *draws) links() []uint64 {
	l := make([]uint64, d.draw(5))
	for i := range l {
		l[i] = someLinks()[d.draw(len(someLinks()))]
	}
	return l
}

// Promises 13.1 to 13.3: long runs of calls on two Sets, with numbers of every kind.
func TestRuns(t *testing.T) {
	d := draws(1)
	for round := range 300 {
		l := []*pair{made(t), made(t)}
		for range d.draw(300) {
			x := l[d.draw(2)]
			if d.draw(3) == 0 {
				x.scans(t, d.number(), d.number(), d.links()...)
			} else {
				x.adds(t, d.number(), uint64(d.draw(9)))
			}
			x.asks(t, d.number())
		}
		for _, x := range l {
			x.tells(t)
		}
		if t.Failed() {
			t.Fatalf("round %d", round)
		}
	}
}

// Promise 13.3: no call panics, and each one ends, whatever the numbers and whatever was recorded before.
func TestHostileNumbers(t *testing.T) {
	for _, x := range []*pair{made(t), filled(t), full(t)} {
		for _, n := range append(noKeys(), 0, 31, 63) {
			for _, m := range append(noKeys(), 0, 31, 63) {
				for _, l := range [][]uint64{nil, {}, someLinks()} {
					x.scans(t, n, m, l...)
				}
				x.adds(t, n, uint64(m))
				x.asks(t, m)
			}
			x.holds(t)
		}
		x.tells(t)
	}
}

// world is the link of the version that each key has at a moment, or 0.
type world [keys]uint64

// links is the versions of a range.
func (w *world) links(lo, hi int) []uint64 {
	var l []uint64
	for _, link := range w[lo : hi+1] {
		if link != 0 {
			l = append(l, link)
		}
	}
	return l
}

// log is every read that a transaction made, by itself: of one key, or of a range where it has more than a key.
type log struct {
	lo, hi int
	alone  bool
	links  []uint64
}

// same tells by a log whether each range has the versions that it had, and each key those that it had when it was read first.
func same(l []log, w *world) bool {
	var read [keys]bool
	for _, r := range l {
		if r.alone && read[r.lo] {
			continue
		}
		if r.alone {
			read[r.lo] = true
		}
		if !slices.Equal(r.links, w.links(r.lo, r.hi)) {
			return false
		}
	}
	return true
}

// still tells the same by what a Set has kept.
func still(s *Set, w *world) bool {
	for _, n := range s.Keys() {
		if link, ok := s.Link(n); !ok || link != w[n] {
			return false
		}
	}
	for _, p := range s.Spans() {
		if !slices.Equal(p.Links, w.links(p.Lo, p.Hi)) {
			return false
		}
	}
	return true
}

// touched tells by a log whether anything was read where a key is.
func touched(l []log, n int) bool {
	return slices.ContainsFunc(l, func(r log) bool { return n >= r.lo && n <= r.hi })
}

// W3: what a Set has kept is enough to tell at the end of a transaction whether all that it read is still so, and which keys others must not have changed.
func TestReadsAreEnough(t *testing.T) {
	d := draws(5)
	var told [2]int
	for round := range 4000 {
		var w world
		for n := range w {
			w[n] = uint64(d.draw(3))
		}
		s := New()
		var l []log
		changes := d.draw(3)
		for range 1 + d.draw(12) {
			lo := d.draw(keys)
			hi := lo + d.draw(min(5, keys-lo))
			if d.draw(2) == 0 {
				s.Add(lo, w[lo])
				l = append(l, log{lo, lo, true, w.links(lo, lo)})
			} else {
				s.Span(lo, hi, w.links(lo, hi))
				l = append(l, log{lo, hi, false, w.links(lo, hi)})
			}
			for range changes {
				w[d.draw(keys)] = uint64(d.draw(3))
			}
		}
		got, want := still(s, &w), same(l, &w)
		if got != want {
			t.Errorf("round %d: still is %v, want %v", round, got, want)
		}
		if want {
			told[1]++
		} else {
			told[0]++
		}
		for n := range keys {
			if s.Covers(n) != touched(l, n) {
				t.Errorf("round %d: Covers(%d) = %v", round, n, s.Covers(n))
			}
		}
	}
	if told[0] < 500 || told[1] < 500 {
		t.Errorf("the runs tell little: %v", told)
	}
}
