package hash

import (
	"math"
	"slices"
	"sync"
	"testing"

	"vinculum/api"
	"vinculum/chain"
	"vinculum/rec"
	"vinculum/word"
)

// keys is how many keys there are, most the greatest number of buckets and ever the word of for ever, by the numbers of chapters 1, 6 and 10.
const (
	keys        = 64
	most        = 64
	ever uint64 = 2305843009213693952
)

// shelf is an Index with the Store that it is based on.
type shelf struct {
	*Index
	s *rec.Store
}

// made is an empty Index with so many buckets.
func made(t *testing.T, slots, buckets int) *shelf {
	t.Helper()
	s, e := rec.New(slots)
	x, f := New(s, buckets)
	if e != api.OK || f != api.OK || x == nil {
		t.Fatalf("%d slots, %d buckets: %d, %d", slots, buckets, e, f)
	}
	return &shelf{Index: x, s: s}
}

// bucketOf is the bucket of a key by the words of the chapter, in numbers that have room for the whole product.
func bucketOf(key, buckets int) int {
	product := uint64(key) * 2654435769 % 4294967296
	return int(product / 65536 % uint64(buckets))
}

func (h *shelf) version(t *testing.T, key int) uint64 {
	t.Helper()
	w, e := h.s.Make(key, 7*key, 3, ever)
	if e != api.OK {
		t.Fatalf("a version of key %d: %d", key, e)
	}
	return w
}

func (h *shelf) puts(t *testing.T, key int) *chain.Chain {
	t.Helper()
	c, e := h.Put(key)
	if c == nil || e != api.OK {
		t.Fatalf("Put(%d) = %v, %d", key, c != nil, e)
	}
	return c
}

// pushes puts a new version into the Chain of a key.
func (h *shelf) pushes(t *testing.T, key int) uint64 {
	t.Helper()
	w := h.version(t, key)
	if !h.puts(t, key).Push(w) {
		t.Fatalf("Push(%#x) to key %d = false", w, key)
	}
	return w
}

func (h *shelf) cuts(t *testing.T, key int, link uint64) {
	t.Helper()
	if !h.puts(t, key).Cut(link) {
		t.Fatalf("Cut(%#x) from key %d = false", link, key)
	}
}

func (h *shelf) drops(t *testing.T, key int) {
	t.Helper()
	if !h.Drop(key) {
		t.Fatalf("Drop(%d) = false", key)
	}
}

// holds holds all that an Index tells against its keys in the order in which they were added; what it tells does not hang on its Chains.
func (h *shelf) holds(t *testing.T, buckets int, added ...int) {
	t.Helper()
	want := slices.Clone(added)
	slices.Sort(want)
	if got := h.Keys(); !slices.Equal(got, want) {
		t.Errorf("Keys() = %v, want %v", got, want)
	}
	for b := range most {
		var in []int
		for i := len(added) - 1; i >= 0 && b < buckets; i-- {
			if bucketOf(added[i], buckets) == b {
				in = append(in, added[i])
			}
		}
		if got := h.In(b); !slices.Equal(got, in) {
			t.Errorf("In(%d) = %v, want %v", b, got, in)
		}
	}
	for key := range keys {
		if c, ok := h.Find(key); ok != slices.Contains(added, key) || ok != (c != nil) {
			t.Errorf("Find(%d) = %v, %v", key, c != nil, ok)
		}
	}
}

// links holds the versions of a key.
func (h *shelf) links(t *testing.T, key int, want ...uint64) {
	t.Helper()
	c, ok := h.Find(key)
	if !ok {
		t.Fatalf("key %d is not there", key)
	}
	if got := c.Links(); !slices.Equal(got, want) {
		t.Errorf("the versions of key %d are %#x, want %#x", key, got, want)
	}
}

// refusesDrop holds that a Drop returns false and changes no key, no order and no Chain.
func (h *shelf) refusesDrop(t *testing.T, key int) {
	t.Helper()
	was := h.told()
	if h.Drop(key) {
		t.Errorf("Drop(%d) = true", key)
	}
	h.stays(t, was)
}

// told is all that an Index and its Store tell: the keys of each bucket, the Chain of each key with its versions, and all versions with their fields.
type told struct {
	keys     []int
	in       [most][]int
	chains   [keys]*chain.Chain
	heads    [keys]uint64
	links    [keys][]uint64
	versions []api.Version
}

func (h *shelf) told() *told {
	l := &told{keys: h.Keys()}
	for b := range most {
		l.in[b] = h.In(b)
	}
	for key := range keys {
		if c, ok := h.Find(key); ok {
			l.chains[key], l.heads[key], l.links[key] = c, c.Head(), c.Links()
		}
	}
	for _, w := range h.s.Links() {
		v, _ := h.s.Get(w)
		l.versions = append(l.versions, v)
	}
	return l
}

func (h *shelf) stays(t *testing.T, was *told) {
	t.Helper()
	is := h.told()
	same := slices.Equal(is.keys, was.keys) && is.chains == was.chains && is.heads == was.heads && slices.Equal(is.versions, was.versions)
	for b := range most {
		same = same && slices.Equal(is.in[b], was.in[b])
	}
	for key := range keys {
		same = same && slices.Equal(is.links[key], was.links[key])
	}
	if !same {
		t.Errorf("%v became %v", was, is)
	}
}

// The numbers that are no key and no bucket: those next to the bounds, those that wrap round to a key in fewer bits, and the ends of the kind int.
func noNumbers(n int) []int {
	return []int{math.MinInt, math.MinInt + 1, math.MinInt + 5, math.MinInt32, -1 << 32, -1<<32 + 5, -65536, -n, -2, -1, n, n + 1, 2 * n, 256, 65536, math.MaxInt32, 1 << 32, 1<<32 + 5, math.MaxInt - 1, math.MaxInt}
}

// Promise 10.1, W1: the buckets of some keys, worked out by hand, and those of all keys for every number of buckets.
func TestBucket(t *testing.T) {
	for _, x := range []struct{ key, upper int }{{0, 0}, {1, 40503}, {2, 15470}, {3, 55974}, {5, 5909}, {21, 64140}, {31, 10423}, {32, 50927}, {62, 20847}, {63, 61350}} {
		for _, n := range []int{1, 2, 3, 10, 63, 64} {
			if got := Bucket(x.key, n); got != x.upper%n {
				t.Errorf("Bucket(%d, %d) = %d, want %d", x.key, n, got, x.upper%n)
			}
		}
	}
	for key := range keys {
		for n := 1; n <= most; n++ {
			if got, want := Bucket(key, n), bucketOf(key, n); got != want {
				t.Errorf("Bucket(%d, %d) = %d, want %d", key, n, got, want)
			}
		}
	}
}

// Promise 10.1: what is no key, and what is no number of buckets, has no bucket.
func TestBucketRefuses(t *testing.T) {
	refuses := func(key, n int) {
		t.Helper()
		if got := Bucket(key, n); got != -1 {
			t.Errorf("Bucket(%d, %d) = %d", key, n, got)
		}
	}
	for _, key := range noNumbers(keys) {
		for _, n := range append(noNumbers(most+1), 0, 1, 2, 63, 64) {
			refuses(key, n)
		}
	}
	for key := range keys {
		for _, n := range append(noNumbers(most+1), 0) {
			refuses(key, n)
		}
	}
}

// Promise 10.1: New with every number of buckets makes an Index without keys, and all keys can be put there.
func TestNew(t *testing.T) {
	for n := 1; n <= most; n++ {
		h := made(t, 1, n)
		h.holds(t, n)
		var all []int
		for key := range keys {
			h.puts(t, key)
			all = append(all, key)
		}
		h.holds(t, n, all...)
	}
}

// Promise 10.1: New without a Store, or with a number of buckets beyond the bounds.
func TestNewRefuses(t *testing.T) {
	s, _ := rec.New(1)
	refuses := func(s *rec.Store, n int) {
		t.Helper()
		if x, e := New(s, n); x != nil || e != api.ErrArg {
			t.Errorf("New(%v, %d) = %v, %d", s != nil, n, x != nil, e)
		}
	}
	for _, n := range append(noNumbers(most+1), 0) {
		refuses(s, n)
		refuses(nil, n)
	}
	for n := 1; n <= most; n++ {
		refuses(nil, n)
	}
}

// Promise 10.1: the example of the chapter.
func TestExample(t *testing.T) {
	s, _ := rec.New(2)
	x, _ := New(s, 4)
	c, e := x.Put(5)
	if d, ok := x.Find(5); c == nil || e != api.OK || d != c || !ok {
		t.Error(c, e, d, ok)
	}
}

// orders are orders of keys: up, down, and from both ends.
func orders() [][]int {
	var up, ends []int
	for key := range keys {
		up = append(up, key)
		if key%2 == 0 {
			ends = append(ends, key/2)
		} else {
			ends = append(ends, keys-1-key/2)
		}
	}
	down := slices.Clone(up)
	slices.Reverse(down)
	return [][]int{up, down, ends, {5}, {63, 0}, {7, 3, 40}}
}

// Promise 10.1: Put adds keys in whatever order, each with an empty Chain on the Store of the Index, and Keys and In tell them; what was put before stays where it was.
func TestPut(t *testing.T) {
	for _, n := range []int{1, 2, 3, 7, 63, 64} {
		for _, order := range orders() {
			h := made(t, keys, n)
			for i, key := range order {
				c := h.puts(t, key)
				if c.Head() != 0 || c.Len() != 0 || len(c.Links()) != 0 {
					t.Errorf("the Chain of key %d begins with %#x", key, c.Links())
				}
				h.holds(t, n, order[:i+1]...)
				if w := h.version(t, key); !c.Push(w) || c.Head() != w {
					t.Errorf("key %d: a version of the Store is not taken", key)
				}
			}
			h.holds(t, n, order...)
		}
	}
}

// Promise 10.1: Put of a key that is there returns its Chain and changes nothing: no order, and no version.
func TestPutAgain(t *testing.T) {
	for _, n := range []int{1, 2, 64} {
		for _, order := range orders() {
			h := made(t, keys, n)
			for i, key := range order {
				h.puts(t, key)
				if i%3 > 0 {
					h.pushes(t, key)
				}
			}
			was := h.told()
			for range 2 {
				for _, key := range order {
					if c := h.puts(t, key); c != was.chains[key] {
						t.Errorf("key %d has another Chain", key)
					}
					h.stays(t, was)
				}
			}
			h.holds(t, n, order...)
		}
	}
}

// Promise 10.1: Put of what is no key adds nothing, and neither Find nor Drop knows it.
func TestNoKeyIsRefused(t *testing.T) {
	for _, n := range []int{1, 3, 64} {
		h := made(t, 2, n)
		refuses := func() {
			t.Helper()
			was := h.told()
			for _, key := range noNumbers(keys) {
				if c, e := h.Put(key); c != nil || e != api.ErrArg {
					t.Errorf("Put(%d) = %v, %d", key, c != nil, e)
				}
				if c, ok := h.Find(key); c != nil || ok {
					t.Errorf("Find(%d) = %v, %v", key, c != nil, ok)
				}
				h.refusesDrop(t, key)
			}
			h.stays(t, was)
		}
		refuses()
		for _, key := range []int{5, 0, 63, 1} {
			h.puts(t, key)
		}
		h.pushes(t, 5)
		refuses()
		h.holds(t, n, 5, 0, 63, 1)
	}
}

// Promise 10.1: Find of a key that is not there, though others of its bucket are, adds nothing.
func TestFindAddsNothing(t *testing.T) {
	for _, n := range []int{1, 2, 5} {
		h := made(t, 1, n)
		for key := 0; key < keys; key += 2 {
			h.puts(t, key)
		}
		was := h.told()
		for key := 1; key < keys; key += 2 {
			if c, ok := h.Find(key); c != nil || ok {
				t.Errorf("Find(%d) = %v, %v", key, c != nil, ok)
			}
			h.refusesDrop(t, key)
		}
		h.stays(t, was)
	}
}

// Promise 10.1: a number that is no bucket has no keys, also in an Index of all keys.
func TestNoBucket(t *testing.T) {
	for n := 1; n <= most; n++ {
		h := made(t, 1, n)
		for range 2 {
			for _, b := range noNumbers(n) {
				if l := h.In(b); len(l) != 0 && (b < 0 || b >= n) {
					t.Errorf("In(%d) of %d buckets = %v", b, n, l)
				}
			}
			for key := range keys {
				h.puts(t, key)
			}
		}
	}
}

// Promise 10.1: Drop takes a key out at each place of its bucket and leaves the others in their order; it is no longer there, and put again it is the last that was added.
func TestDrop(t *testing.T) {
	for _, n := range []int{1, 2, 3, 64} {
		for size := 1; size <= 6; size++ {
			for gone := range size {
				h := made(t, 1, n)
				var added []int
				for i := range size {
					h.puts(t, i*11%keys)
					added = append(added, i*11%keys)
				}
				key := added[gone]
				h.drops(t, key)
				added = slices.Delete(added, gone, gone+1)
				h.holds(t, n, added...)
				h.refusesDrop(t, key)
				h.puts(t, key)
				h.holds(t, n, append(added, key)...)
			}
		}
	}
}

// Promise 10.1: all keys are dropped, in several orders, and put again in others.
func TestDropAll(t *testing.T) {
	all := orders()[:3]
	for _, n := range []int{1, 3, 64} {
		for i, order := range all {
			h := made(t, 1, n)
			for range 3 {
				put := all[(i+1)%len(all)]
				for _, key := range put {
					h.puts(t, key)
				}
				rest := slices.Clone(put)
				for _, key := range order {
					h.drops(t, key)
					rest = slices.DeleteFunc(rest, func(k int) bool { return k == key })
				}
				h.holds(t, n, rest...)
			}
		}
	}
}

// Promise 10.1: Drop of a key whose Chain has versions, one or many, changes nothing; when the last of them is cut, whichever it is, the key can be dropped, also while they are still in the Store.
func TestDropRefusesVersions(t *testing.T) {
	for size := 1; size <= 4; size++ {
		for last := range size {
			h := made(t, 8, 2)
			for _, key := range []int{2, 5, 9} {
				h.puts(t, key)
			}
			var l []uint64
			for range size {
				l = append(l, h.pushes(t, 5))
				h.refusesDrop(t, 5)
			}
			for i, w := range l {
				if i != last {
					h.cuts(t, 5, w)
					h.refusesDrop(t, 5)
				}
			}
			h.links(t, 5, l[last])
			h.holds(t, 2, 2, 5, 9)
			h.cuts(t, 5, l[last])
			h.drops(t, 5)
			h.holds(t, 2, 2, 9)
			if h.s.Used() != size {
				t.Errorf("%d versions are left of %d", h.s.Used(), size)
			}
		}
	}
}

// Promise 10.1: a version that was freed is none, so that a key whose Chain begins with one can be dropped, but not one whose Chain has another version ahead of it.
func TestDropAfterFree(t *testing.T) {
	h := made(t, 4, 1)
	a, b := h.pushes(t, 5), h.pushes(t, 5)
	if e := h.s.Free(a); e != api.OK {
		t.Fatal(e)
	}
	h.refusesDrop(t, 5)
	if e := h.s.Free(b); e != api.OK {
		t.Fatal(e)
	}
	h.links(t, 5)
	h.drops(t, 5)
	h.holds(t, 1)
	if c := h.puts(t, 5); c.Head() != 0 || c.Len() != 0 {
		t.Errorf("the new Chain begins with %#x", c.Head())
	}
}

// Promises 10.1 and 10.3: a Chain whose next links were led in a ring has versions.
func TestDropOfARing(t *testing.T) {
	h := made(t, 2, 1)
	a, b := h.pushes(t, 5), h.pushes(t, 5)
	if e := h.s.Next(a, b); e != api.OK {
		t.Fatal(e)
	}
	h.refusesDrop(t, 5)
	h.cuts(t, 5, a)
	h.refusesDrop(t, 5)
	h.cuts(t, 5, b)
	h.drops(t, 5)
}

// Promises 10.1 and 10.2: a key that is put again has an empty Chain, whatever those who hold its former one push there, ahead of the Put or behind it.
func TestAFormerChainIsApart(t *testing.T) {
	h := made(t, 8, 1)
	old := h.puts(t, 5)
	for range 3 {
		h.drops(t, 5)
		early, late := h.version(t, 5), h.version(t, 5)
		if !old.Push(early) {
			t.Fatal("Push to the former Chain = false")
		}
		c := h.puts(t, 5)
		if c.Head() != 0 || c.Len() != 0 {
			t.Errorf("the new Chain begins with %#x", c.Head())
		}
		old.Push(late)
		h.links(t, 5)
		old = c
	}
	w := h.pushes(t, 5)
	h.links(t, 5, w)
	h.refusesDrop(t, 5)
}

// Promise 10.2: a key has one Chain: Put and Find return the same one each time, what is pushed to one of them is in all of them, and no other key has it, in this Index or in another one on the same Store.
func TestOneChainAKey(t *testing.T) {
	for _, n := range []int{1, 3, 64} {
		h := made(t, 4*keys, n)
		y, e := New(h.s, n)
		if e != api.OK {
			t.Fatal(e)
		}
		o := &shelf{Index: y, s: h.s}
		var seen []*chain.Chain
		for _, x := range []*shelf{h, o} {
			for key := range keys {
				c := x.puts(t, key)
				if d, ok := x.Find(key); d != c || !ok || x.puts(t, key) != c {
					t.Errorf("key %d has several Chains", key)
				}
				if slices.Contains(seen, c) {
					t.Errorf("key %d has the Chain of another one", key)
				}
				seen = append(seen, c)
			}
		}
		want := make([][]uint64, len(seen))
		for range 2 {
			for i, c := range seen {
				w := h.version(t, i%keys)
				if !c.Push(w) {
					t.Fatalf("Push(%#x) = false", w)
				}
				want[i] = slices.Insert(want[i], 0, w)
			}
		}
		for key := range keys {
			h.links(t, key, want[key]...)
			o.links(t, key, want[keys+key]...)
		}
	}
}

// Rule 3: what an Index returns shares nothing with it, nor with what an earlier call returned, the room behind the keys included.
func TestListsAreLentToNobody(t *testing.T) {
	h := made(t, 1, 1)
	added := []int{9, 3, 40}
	for _, key := range added {
		h.puts(t, key)
	}
	for _, list := range []func() []int{h.Keys, func() []int { return h.In(0) }} {
		l, m := list(), list()
		want := slices.Clone(m)
		for i := range l[:cap(l)] {
			l[:cap(l)][i] = 77
		}
		h.holds(t, 1, added...)
		h.puts(t, 50)
		h.drops(t, 50)
		h.drops(t, 40)
		h.puts(t, 40)
		if !slices.Equal(m, want) || slices.ContainsFunc(l, func(key int) bool { return key != 77 }) {
			t.Errorf("lists from before became %v and %v", l, m)
		}
	}
}

// Promise 10.1: what only tells changes nothing, however often it is asked, and neither Put nor Drop changes the Store.
func TestTheStoreIsLeftAlone(t *testing.T) {
	h := made(t, 6, 3)
	h.pushes(t, 4)
	h.pushes(t, 4)
	h.version(t, 7)
	was := h.told()
	for range 3 {
		h.told()
		Bucket(4, 3)
	}
	h.stays(t, was)
	h.puts(t, 7)
	h.puts(t, 4)
	h.drops(t, 7)
	h.stays(t, was)
}

// held is a key of the plain Index with its Chain and the links of its versions, the newest one first.
type held struct {
	key   int
	chain *chain.Chain
	links []uint64
}

// plain is what the document says of an Index, told by one list of all keys in the order in which they were added.
type plain []held

func (p plain) at(key int) int {
	return slices.IndexFunc(p, func(x held) bool { return x.key == key })
}

// The calls of the runs below: three of the Index, and two of the Chain of a key, of which the second takes its oldest version out.
const (
	callPut = iota
	callDrop
	callFind
	callPush
	callCut
	callKinds
)

// both makes one call of an Index and of the plain one and holds their answers against each other.
func both(t *testing.T, h *shelf, p plain, kind, key int) plain {
	t.Helper()
	i := p.at(key)
	switch kind {
	case callPut:
		c := h.puts(t, key)
		if i < 0 {
			return append(p, held{key: key, chain: c})
		}
		if c != p[i].chain {
			t.Errorf("Put(%d) returns another Chain", key)
		}
	case callDrop:
		want := i >= 0 && len(p[i].links) == 0
		if got := h.Drop(key); got != want {
			t.Fatalf("Drop(%d) = %v", key, got)
		}
		if want {
			return slices.Delete(p, i, i+1)
		}
	case callFind:
		c, ok := h.Find(key)
		if ok != (i >= 0) || ok && c != p[i].chain || !ok && c != nil {
			t.Errorf("Find(%d) = %v, %v", key, c != nil, ok)
		}
	case callPush:
		if i >= 0 && len(p[i].links) < 2 {
			p[i].links = slices.Insert(p[i].links, 0, h.pushes(t, key))
		}
	case callCut:
		if i < 0 || len(p[i].links) == 0 {
			break
		}
		last := len(p[i].links) - 1
		h.cuts(t, key, p[i].links[last])
		h.s.Free(p[i].links[last])
		p[i].links = p[i].links[:last]
	}
	return p
}

// same holds all that an Index tells against the plain one.
func same(t *testing.T, h *shelf, p plain, buckets int) {
	t.Helper()
	var added []int
	used := 0
	for _, x := range p {
		added = append(added, x.key)
		used += len(x.links)
		h.links(t, x.key, x.links...)
		if c, _ := h.Find(x.key); c != x.chain {
			t.Errorf("key %d has another Chain", x.key)
		}
	}
	h.holds(t, buckets, added...)
	if h.s.Used() != used {
		t.Errorf("Used() = %d, want %d", h.s.Used(), used)
	}
}

// Promises 10.1 and 10.2: every sequence of five calls with two keys that share a bucket and one that does not.
func TestEverySequence(t *testing.T) {
	const calls, buckets = 5, 2
	three := []int{1, 5, 2} // in the buckets 1, 1 and 0
	choices := 1
	for range calls {
		choices *= callKinds * len(three)
	}
	for number := range choices {
		h, p := made(t, 6, buckets), plain{}
		for rest, n := number, 0; n < calls; n++ {
			key := three[rest%len(three)]
			rest /= len(three)
			p = both(t, h, p, rest%callKinds, key)
			rest /= callKinds
		}
		same(t, h, p, buckets)
		if t.Failed() {
			t.Fatalf("sequence %d", number)
		}
	}
}

// Promises 10.1 and 10.2: long runs of calls, against the list above, with every number of buckets.
func TestRuns(t *testing.T) {
	seed := uint64(1)
	draw := func(m int) int {
		seed = seed*6364136223846793005 + 1442695040888963407
		return int(seed >> 33 % uint64(m))
	}
	for round := range 4 * most {
		buckets := 1 + round%most
		h, p := made(t, 2*keys, buckets), plain{}
		some := 1 + draw(keys)
		for range 250 {
			p = both(t, h, p, draw(callKinds), draw(some))
			if draw(10) == 0 {
				same(t, h, p, buckets)
			}
		}
		same(t, h, p, buckets)
		if t.Failed() {
			t.Fatalf("round %d", round)
		}
	}
}

// firstCalls are the calls that look into the buckets, each of which may be the first to need them.
func firstCalls() []func(x *Index) {
	return []func(x *Index){
		func(x *Index) { x.Find(5) },
		func(x *Index) { x.Put(5) },
		func(x *Index) { x.Keys() },
		func(x *Index) { x.In(0) },
		func(x *Index) { x.Drop(5) },
	}
}

// Section Ways: the buckets are made when they are first needed, by whichever call, as many as were asked for, and then never again.
func TestBucketsAreMadeOnce(t *testing.T) {
	for _, n := range []int{1, 7, 64} {
		for i, first := range firstCalls() {
			h := made(t, 1, n)
			for _, key := range noNumbers(keys) {
				h.Put(key)
				h.Find(key)
				h.Drop(key)
			}
			h.In(-1)
			h.In(n)
			if h.buckets != nil {
				t.Errorf("call %d: the buckets are made before they are needed", i)
			}
			first(h.Index)
			if len(h.buckets) != n {
				t.Fatalf("call %d made %d buckets of %d", i, len(h.buckets), n)
			}
			at := &h.buckets[0]
			for _, then := range firstCalls() {
				then(h.Index)
			}
			for range 2 {
				for key := range keys {
					h.puts(t, key)
				}
				for key := range keys {
					h.drops(t, key)
				}
			}
			if &h.buckets[0] != at || len(h.buckets) != n {
				t.Errorf("call %d: the buckets are made again", i)
			}
			h.holds(t, n)
		}
	}
}

// sessions is how many call at a time in the tests below.
const sessions = 8

// together has each session run, all at a time, and returns when all of them are done.
func together(run func(k int)) {
	var all sync.WaitGroup
	start := make(chan struct{})
	for k := range sessions {
		all.Go(func() {
			<-start
			run(k)
		})
	}
	close(start)
	all.Wait()
}

// Section Ways: of sessions that look first at once, one makes the buckets; all of them see an Index without keys, and then the keys that one has put.
func TestLooksSideBySide(t *testing.T) {
	for round := range 300 {
		n := 1 + round%most
		h := made(t, 1, n)
		for range 2 {
			want := h.keysNow()
			var good [sessions]bool
			together(func(k int) {
				good[k] = slices.Equal(h.Keys(), want)
				for key := range keys {
					c, ok := h.Find((key + 9*k) % keys)
					good[k] = good[k] && ok == slices.Contains(want, (key+9*k)%keys) && ok == (c != nil)
				}
				found := 0
				for b := range n {
					found += len(h.In((b + 7*k) % n))
				}
				good[k] = good[k] && found == len(want)
			})
			if slices.Contains(good[:], false) {
				t.Fatalf("round %d: a session saw what cannot be: %v", round, good)
			}
			for key := 1; key < keys; key += 1 + round%5 {
				h.puts(t, key)
			}
		}
	}
}

// keysNow are the keys of an Index whose buckets may not be made yet, and which this look does not make.
func (h *shelf) keysNow() []int {
	var l []int
	for _, b := range h.buckets {
		for _, e := range b {
			l = append(l, e.key)
		}
	}
	slices.Sort(l)
	return l
}

// Promise 10.2, section Ways: sessions that find a key at once have the same Chain: none of what they push is lost.
func TestOneChainForAllSessions(t *testing.T) {
	for range 100 {
		const each = 5
		h := made(t, sessions*each, 3)
		h.puts(t, 5)
		var mine [sessions][]uint64
		for k := range mine {
			for range each {
				mine[k] = append(mine[k], h.version(t, 5))
			}
		}
		var refused [sessions]bool
		together(func(k int) {
			for _, w := range mine[k] {
				c, ok := h.Find(5)
				refused[k] = refused[k] || !ok || !c.Push(w)
			}
		})
		c, _ := h.Find(5)
		l := c.Links()
		slices.Sort(l)
		if refused != [sessions]bool{} || len(slices.Compact(l)) != sessions*each {
			t.Fatalf("refused: %v, there are %#x", refused, l)
		}
	}
}

// Promise 10.3: no call panics, whatever it is given and whatever has been done, to the Chains and their versions past the Index among that.
func TestNoCallPanics(t *testing.T) {
	defer func() {
		if r := recover(); r != nil {
			t.Errorf("panic: %v", r)
		}
	}()
	s, _ := rec.New(3)
	odd := append(noNumbers(keys), noNumbers(most+1)...)
	odd = append(odd, 0, 1, 2, 5, 62, 63)
	for _, n := range odd {
		New(nil, n)
		x, e := New(s, n)
		for _, i := range odd {
			Bucket(i, n)
			if e != api.OK {
				continue
			}
			x.Find(i)
			x.In(i)
			x.Drop(i)
			c, f := x.Put(i)
			if f == api.OK {
				w, _ := s.Make(i, 1, 2, word.Forever())
				c.Push(w)
				s.Next(w, math.MaxUint64)
				x.Drop(i)
				s.Free(w)
			}
			x.Keys()
			x.In(i)
			x.Drop(i)
		}
	}
}
