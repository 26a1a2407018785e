package rec

import (
	"math"
	"slices"
	"sync"
	"testing"

	"vinculum/api"
	"vinculum/word"
)

// ever is the word of for ever, and the others are the bounds of a Store, by the numbers of chapters 1 and 6.
const (
	ever      uint64 = 2305843009213693952
	mostSlots        = 4096
	lastTag          = 65535
)

// made is a Store with so many slots.
func made(t *testing.T, slots int) *Store {
	t.Helper()
	s, e := New(slots)
	if e != api.OK || s == nil {
		t.Fatalf("New(%d) = %v, %d", slots, s != nil, e)
	}
	return s
}

// at is the link of a slot with a tag, and txn the word of a transaction, by the numbers of chapter 1.
func at(slot, tag int) uint64 {
	return uint64(tag)*131072 + uint64(slot) + 1
}

func txn(id int) uint64 {
	return 4611686018427387904 + uint64(id)
}

// makes makes the version v, whose next link is 0, and holds that it gets the link that it must get.
func makes(t *testing.T, s *Store, want uint64, v api.Version) uint64 {
	t.Helper()
	w, e := s.Make(v.Key, v.Value, v.Begin, v.End)
	if w != want || e != api.OK {
		t.Fatalf("Make(%v) = %#x, %d; want %#x, OK", v, w, e, want)
	}
	has(t, s, w, v)
	return w
}

// refusesMake holds that Make returns an error, and no link beside it.
func refusesMake(t *testing.T, s *Store, key, value int, begin, end uint64, want api.Errno) {
	t.Helper()
	if w, e := s.Make(key, value, begin, end); w != 0 || e != want {
		t.Errorf("Make(%d, %d, %#x, %#x) = %#x, %d; want 0, %d", key, value, begin, end, w, e, want)
	}
}

// has holds what Get returns of a version that is there.
func has(t *testing.T, s *Store, link uint64, want api.Version) {
	t.Helper()
	if got, ok := s.Get(link); got != want || !ok {
		t.Errorf("Get(%#x) = %v, %v; want %v", link, got, ok, want)
	}
}

// frees frees a version that is there.
func frees(t *testing.T, s *Store, link uint64) {
	t.Helper()
	if e := s.Free(link); e != api.OK {
		t.Fatalf("Free(%#x) = %d", link, e)
	}
}

// sets and leads hold what Set and Next return.
func sets(t *testing.T, s *Store, link uint64, value int, want api.Errno) {
	t.Helper()
	if e := s.Set(link, value); e != want {
		t.Errorf("Set(%#x, %d) = %d, want %d", link, value, e, want)
	}
}

func leads(t *testing.T, s *Store, link, to uint64, want api.Errno) {
	t.Helper()
	if e := s.Next(link, to); e != want {
		t.Errorf("Next(%#x, %#x) = %d, want %d", link, to, e, want)
	}
}

// begins and ends hold what Begin and End return.
func begins(t *testing.T, s *Store, link, old, new uint64, want bool) {
	t.Helper()
	if ok := s.Begin(link, old, new); ok != want {
		t.Errorf("Begin(%#x, %#x, %#x) = %v", link, old, new, ok)
	}
}

func ends(t *testing.T, s *Store, link, old, new uint64, want bool) {
	t.Helper()
	if ok := s.End(link, old, new); ok != want {
		t.Errorf("End(%#x, %#x, %#x) = %v", link, old, new, ok)
	}
}

// all is what a Store tells of its versions: their links, each with its version.
func all(t *testing.T, s *Store) ([]uint64, []api.Version) {
	t.Helper()
	l := s.Links()
	if s.Used() != len(l) {
		t.Errorf("Used() = %d, but there are %d links", s.Used(), len(l))
	}
	var vs []api.Version
	for _, w := range l {
		v, ok := s.Get(w)
		if !ok {
			t.Errorf("Get(%#x), one of Links, is false", w)
		}
		vs = append(vs, v)
	}
	return l, vs
}

// holds holds what a Store tells of its versions against a list of their links and a list of the versions.
func holds(t *testing.T, s *Store, links []uint64, versions []api.Version) {
	t.Helper()
	l, vs := all(t, s)
	if !slices.Equal(l, links) || !slices.Equal(vs, versions) {
		t.Errorf("the Store has %#x: %v; want %#x: %v", l, vs, links, versions)
	}
}

// refuses holds that a word is the link of no version, for every call that takes one, even where the other arguments fit what is there or are wrong as well, and that none of these calls changes a thing.
func refuses(t *testing.T, s *Store, w uint64) {
	t.Helper()
	l, vs := all(t, s)
	if v, ok := s.Get(w); v != (api.Version{}) || ok {
		t.Errorf("Get(%#x) = %v, %v", w, v, ok)
	}
	if e := s.Free(w); e != api.ErrStale {
		t.Errorf("Free(%#x) = %d, want ErrStale", w, e)
	}
	for _, value := range []int{5, -1, 65536} {
		sets(t, s, w, value, api.ErrStale)
	}
	leads(t, s, w, 0, api.ErrStale)
	leads(t, s, w, 99, api.ErrStale)
	olds := []uint64{0, 3, ever}
	for _, v := range vs[:min(len(vs), 4)] {
		olds = append(olds, v.Begin, v.End)
	}
	for _, old := range olds {
		begins(t, s, w, old, 98, false)
		begins(t, s, w, old, old, false)
		ends(t, s, w, old, 97, false)
		ends(t, s, w, old, old, false)
	}
	holds(t, s, l, vs)
}

// oddWords are words of no slot and of slots beyond most Stores: 0, each greater power of two with its neighbours, and stamps.
func oddWords() []uint64 {
	l := []uint64{0, math.MaxUint64, ever, txn(1), txn(65535)}
	for i := 13; i < 64; i++ {
		p := uint64(1) << i
		l = append(l, p-1, p, p+1)
	}
	return l
}

// words are words of every kind that a version may carry: times, transactions, for ever, links, marked ones, and words that are nothing.
func words() []uint64 {
	const last uint64 = 1099511627776
	return []uint64{0, 1, 2, 65535, last - 1, last, last + 1, at(0, 0), at(4095, 65535), at(1, 2) + last, ever - 1, ever, ever + 1, txn(0), txn(1), txn(65535), txn(65536), 1 << 63, 1<<63 + 5, math.MaxUint64 - 1, math.MaxUint64}
}

// wrongKeys and wrongValues are numbers that are no key and no value.
func wrongKeys() []int {
	return []int{math.MinInt, math.MinInt + 1, math.MinInt32, -65536, -64, -63, -2, -1, 64, 65, 127, 128, 255, 256, 65535, 65536, 1 << 32, 1<<32 + 1, math.MaxInt32, math.MaxInt - 1, math.MaxInt}
}

func wrongValues() []int {
	return []int{math.MinInt, math.MinInt + 1, math.MinInt32, -65536, -65535, -2, -1, 65536, 65537, 131071, 131072, 1 << 32, 1<<32 + 1, math.MaxInt32, math.MaxInt - 1, math.MaxInt}
}

// number is a version all of whose fields tell its number i, with no next link.
func number(i int) api.Version {
	return api.Version{Key: i % 64, Value: 7 * i % 65536, Begin: uint64(3*i + 1), End: txn(i + 1)}
}

// Promise 6.1: New at the numbers that are permitted: the Store is empty, has so many slots, and no more.
func TestNew(t *testing.T) {
	for _, slots := range []int{1, 2, 3, 63, 64, 255, 256, 257, 4095, 4096} {
		s := made(t, slots)
		holds(t, s, nil, nil)
		var links []uint64
		var versions []api.Version
		for i := range slots {
			links = append(links, makes(t, s, at(i, 0), number(i)))
			versions = append(versions, number(i))
			if s.Used() != i+1 {
				t.Errorf("Used() = %d behind %d Makes", s.Used(), i+1)
			}
		}
		refusesMake(t, s, 1, 2, 3, 4, api.ErrFull)
		holds(t, s, links, versions)
		refuses(t, s, at(slots, 0))
	}
}

// Promise 6.1: New at the numbers that are not permitted, such among them as turn small when they are multiplied by a few words a slot.
func TestNewOutOfRange(t *testing.T) {
	l := []int{math.MinInt, math.MinInt + 1, math.MinInt32, -4097, -4096, -2, -1, 0, 4097, 4098, 8192, 20000, 20001, 65535, 65536, 100000, 100001, 1 << 32, 1<<32 + 1, math.MaxInt32, math.MaxInt - 1, math.MaxInt}
	for per := 1; per < 9; per++ {
		n := math.MaxUint64/uint64(per) + 1
		l = append(l, int(n), int(n+1), int(n+100))
	}
	for _, slots := range l {
		if slots >= 1 && slots <= 4096 {
			continue
		}
		if s, e := New(slots); s != nil || e != api.ErrArg {
			t.Errorf("New(%d) = %v, %d", slots, s != nil, e)
		}
	}
}

// Promise 6.1: the example of the chapter.
func TestExample(t *testing.T) {
	s := made(t, 1)
	begin, _ := word.Time(3)
	w, e := s.Make(1, 2, begin, word.Forever())
	v, ok := s.Get(w)
	if e != api.OK || !ok || v.Key != 1 || v.Value != 2 {
		t.Errorf("key %d, value %d, %v, %d", v.Key, v.Value, ok, e)
	}
	if v.Begin != 3 || v.End != ever || v.Next != 0 {
		t.Errorf("words %#x, %#x, %#x", v.Begin, v.End, v.Next)
	}
}

// Promise 6.1: Make with every key, with values at and between the bounds, and with every kind of word for either of its words.
func TestMake(t *testing.T) {
	s := made(t, 3)
	other := makes(t, s, at(0, 0), number(1))
	tag := 0
	passes := func(v api.Version) {
		t.Helper()
		w := makes(t, s, at(1, tag), v)
		holds(t, s, []uint64{other, w}, []api.Version{number(1), v})
		frees(t, s, w)
		tag++
	}
	for key := range 64 {
		for _, value := range []int{0, 1, 255, 256, 65534, 65535} {
			passes(api.Version{Key: key, Value: value, Begin: 3, End: ever})
		}
	}
	for value := 0; value < 65536; value += 251 {
		passes(api.Version{Key: 7, Value: value, Begin: 3, End: ever})
	}
	for _, begin := range words() {
		for _, end := range words() {
			passes(api.Version{Key: 63, Value: 65535, Begin: begin, End: end})
		}
	}
}

// Promise 6.1: Make with what is no key or no value takes no slot, whether one is free or not: the argument is judged ahead of the room.
func TestMakeOutOfRange(t *testing.T) {
	s := made(t, 2)
	var links []uint64
	var versions []api.Version
	for i := range 3 {
		for _, key := range wrongKeys() {
			for _, value := range []int{0, 5, 65535, -1, 65536} {
				refusesMake(t, s, key, value, 3, ever, api.ErrArg)
			}
		}
		for _, value := range wrongValues() {
			for _, key := range []int{0, 5, 63} {
				refusesMake(t, s, key, value, 3, ever, api.ErrArg)
			}
		}
		holds(t, s, links, versions)
		if i < 2 {
			links = append(links, makes(t, s, at(i, 0), number(i)))
			versions = append(versions, number(i))
		}
	}
	refusesMake(t, s, 0, 0, 3, ever, api.ErrFull)
	frees(t, s, at(0, 0))
	refusesMake(t, s, 64, 0, 3, ever, api.ErrArg)
	makes(t, s, at(0, 1), number(9))
}

// Promise 6.1: Make where no slot is free changes nothing, and there is room again behind a Free, for one version.
func TestMakeWithoutRoom(t *testing.T) {
	s := made(t, 2)
	a, b := makes(t, s, at(0, 0), number(1)), makes(t, s, at(1, 0), number(2))
	for range 3 {
		refusesMake(t, s, 5, 6, 7, 8, api.ErrFull)
		holds(t, s, []uint64{a, b}, []api.Version{number(1), number(2)})
	}
	frees(t, s, a)
	c := makes(t, s, at(0, 1), number(3))
	refusesMake(t, s, 5, 6, 7, 8, api.ErrFull)
	holds(t, s, []uint64{c, b}, []api.Version{number(3), number(2)})
}

// Promise 6.1: a link is that of pool.Take: the slot that was given back last, ahead of the first one that was never taken, with a tag more.
func TestMakeTakesSlotsInOrder(t *testing.T) {
	s := made(t, 6)
	for i := range 4 {
		makes(t, s, at(i, 0), number(i))
	}
	for _, i := range []int{2, 0, 3} {
		frees(t, s, at(i, 0))
	}
	makes(t, s, at(3, 1), number(10))
	makes(t, s, at(0, 1), number(11))
	frees(t, s, at(3, 1))
	makes(t, s, at(3, 2), number(12))
	makes(t, s, at(2, 1), number(13))
	makes(t, s, at(4, 0), number(14))
	holds(t, s, []uint64{at(0, 1), at(1, 0), at(2, 1), at(3, 2), at(4, 0)}, []api.Version{number(11), number(1), number(13), number(12), number(14)})
}

// Promise 6.1: a version begins with its own fields and next link 0, whatever was in its slot before it.
func TestMakeInAUsedSlot(t *testing.T) {
	s := made(t, 2)
	for tag := range 20 {
		v := number(tag)
		w := makes(t, s, at(0, tag), v)
		sets(t, s, w, 60000+tag, api.OK)
		leads(t, s, w, math.MaxUint64-uint64(tag), api.OK)
		begins(t, s, w, v.Begin, math.MaxUint64, true)
		ends(t, s, w, v.End, math.MaxUint64, true)
		frees(t, s, w)
	}
	makes(t, s, at(0, 20), api.Version{})
}

// Promises 6.1 and 6.2: a slot carries each tag up to 65,535 once; then no version gets it any more, and none of its links is ever Live again.
func TestTagsRunOut(t *testing.T) {
	s := made(t, 2)
	kept := makes(t, s, at(0, 0), number(1))
	for tag := range lastTag {
		w, e := s.Make(2, 3, 4, 5)
		if w != at(1, tag) || e != api.OK || s.Free(w) != api.OK {
			t.Fatalf("tag %d: Make = %#x, %d", tag, w, e)
		}
	}
	w := makes(t, s, at(1, lastTag), number(2))
	refusesMake(t, s, 0, 0, 0, 0, api.ErrFull)
	frees(t, s, w)
	for range 3 {
		refusesMake(t, s, 0, 0, 0, 0, api.ErrFull)
		refusesMake(t, s, 64, 0, 0, 0, api.ErrArg)
	}
	for _, tag := range []int{0, 1, 65534, 65535, 65536} {
		refuses(t, s, at(1, tag))
	}
	holds(t, s, []uint64{kept}, []api.Version{number(1)})
	frees(t, s, kept)
	makes(t, s, at(0, 1), number(3))
	refusesMake(t, s, 0, 0, 0, 0, api.ErrFull)
}

// Promise 6.1: Free takes the version that it is asked to, and no other, and refuses what is freed already.
func TestFree(t *testing.T) {
	for gone := range 3 {
		s := made(t, 3)
		var links []uint64
		var versions []api.Version
		for i := range 3 {
			makes(t, s, at(i, 0), number(i))
			if i != gone {
				links = append(links, at(i, 0))
				versions = append(versions, number(i))
			}
		}
		frees(t, s, at(gone, 0))
		holds(t, s, links, versions)
		refuses(t, s, at(gone, 0))
		refuses(t, s, at(gone, 1))
		makes(t, s, at(gone, 1), number(0))
	}
}

// Promise 6.1: words that are no link of a version are refused by every call, by an untouched Store, by one in use and by a full one.
func TestNoLinkIsRefused(t *testing.T) {
	s := made(t, 3)
	for n := range 4 {
		for _, w := range oddWords() {
			refuses(t, s, w)
		}
		for i := range 5 {
			for tag := range 3 {
				if i >= n || tag > 0 {
					refuses(t, s, at(i, tag))
				}
			}
		}
		for tag := range 3 {
			refuses(t, s, uint64(tag)<<17)
		}
		if n < 3 {
			makes(t, s, at(n, 0), api.Version{Key: n, Begin: 3, End: ever})
		}
	}
}

// Promise 6.1: a link with any other bit set, the mark among them, or with one that is not set, is not that of the version, though it names the same slot.
func TestOtherBitsAreRefused(t *testing.T) {
	s := made(t, 8)
	for i := range 6 {
		makes(t, s, at(i, 0), number(i))
	}
	for i := range 5 {
		frees(t, s, at(i, 0))
	}
	for tag := range 5 {
		frees(t, s, at(5, tag))
		makes(t, s, at(5, tag+1), number(tag))
	}
	w := at(5, 5)
	for b := range 64 {
		refuses(t, s, w^1<<b)
		for c := range b {
			refuses(t, s, w^1<<b^1<<c)
		}
	}
	refuses(t, s, word.Mark(w))
	refuses(t, s, ^w)
	holds(t, s, []uint64{w}, []api.Version{number(4)})
}

// Promise 6.1: Set replaces the value of one version and leaves all else.
func TestSet(t *testing.T) {
	s := made(t, 3)
	l := []uint64{at(0, 0), at(1, 0), at(2, 0)}
	var vs []api.Version
	for i, w := range l {
		makes(t, s, w, number(i))
		leads(t, s, w, uint64(40+i), api.OK)
		v := number(i)
		v.Next = uint64(40 + i)
		vs = append(vs, v)
	}
	for _, value := range []int{0, 1, 255, 256, 32768, 65534, 65535, 7} {
		for i, w := range l {
			sets(t, s, w, value, api.OK)
			vs[i].Value = value
			holds(t, s, l, vs)
		}
	}
	for _, value := range wrongValues() {
		for _, w := range l {
			sets(t, s, w, value, api.ErrArg)
		}
		holds(t, s, l, vs)
	}
}

// Promise 6.1: a link that is not Live is judged ahead of the value.
func TestSetOfAStaleLink(t *testing.T) {
	s := made(t, 2)
	w := makes(t, s, at(0, 0), number(1))
	frees(t, s, w)
	for _, value := range append(wrongValues(), 0, 5, 65535) {
		sets(t, s, w, value, api.ErrStale)
		sets(t, s, 0, value, api.ErrStale)
	}
	v := makes(t, s, at(0, 1), number(2))
	for _, value := range append(wrongValues(), 0, 5, 65535) {
		sets(t, s, w, value, api.ErrStale)
	}
	has(t, s, v, number(2))
}

// Promise 6.1: Next sets the next link of one version to any word, a link of a version or not, and leaves all else.
func TestNext(t *testing.T) {
	s := made(t, 3)
	l := []uint64{at(0, 0), at(1, 0), at(2, 0)}
	vs := []api.Version{number(0), number(1), number(2)}
	for i, w := range l {
		makes(t, s, w, vs[i])
	}
	for _, to := range append(append(words(), oddWords()...), l...) {
		for i, w := range l {
			leads(t, s, w, to, api.OK)
			vs[i].Next = to
			holds(t, s, l, vs)
		}
	}
}

// Promise 6.1: the next link stays as it was set when the version that it leads to is freed, and when that one's slot gets another version.
func TestNextStays(t *testing.T) {
	s := made(t, 2)
	a, b := makes(t, s, at(0, 0), number(1)), makes(t, s, at(1, 0), number(2))
	leads(t, s, a, b, api.OK)
	want := number(1)
	want.Next = b
	frees(t, s, b)
	has(t, s, a, want)
	makes(t, s, at(1, 1), number(3))
	has(t, s, a, want)
	leads(t, s, a, 0, api.OK)
	has(t, s, a, number(1))
}

// Promise 6.1: Begin and End exchange their own word of one version, from every word to every word, only if it is old; they report whether it was, and leave all else.
func TestBeginAndEnd(t *testing.T) {
	s := made(t, 3)
	l := []uint64{at(0, 0), at(1, 0), at(2, 0)}
	start := api.Version{Key: 5, Value: 6, Begin: 77, End: 77}
	for _, w := range l {
		makes(t, s, w, start)
		leads(t, s, w, 77, api.OK)
	}
	start.Next = 77
	for i, w := range l {
		vs := []api.Version{start, start, start}
		for _, old := range words() {
			for _, new := range words() {
				begins(t, s, w, vs[i].Begin, old, true)
				begins(t, s, w, old+1, 78, false)
				begins(t, s, w, old, new, true)
				vs[i].Begin = new
				holds(t, s, l, vs)
				ends(t, s, w, vs[i].End, new, true)
				ends(t, s, w, new+1, 78, false)
				ends(t, s, w, new, old, true)
				vs[i].End = old
				holds(t, s, l, vs)
			}
		}
		begins(t, s, w, vs[i].Begin, 77, true)
		ends(t, s, w, vs[i].End, 77, true)
	}
}

// Promise 6.1: an exchange holds whole words against one another: one other bit, and it does not come about; and one that sets a word to what it is reports as any other.
func TestExchangesCompareWholeWords(t *testing.T) {
	for _, w := range words() {
		s := made(t, 1)
		v := api.Version{Key: 1, Value: 2, Begin: w, End: ^w}
		link := makes(t, s, at(0, 0), v)
		for b := range 64 {
			begins(t, s, link, w^1<<b, w, false)
			begins(t, s, link, w^1<<b, 5, false)
			ends(t, s, link, ^w^1<<b, ^w, false)
			ends(t, s, link, ^w^1<<b, 5, false)
		}
		begins(t, s, link, ^w, 5, false)
		ends(t, s, link, w, 5, false)
		begins(t, s, link, w, w, true)
		ends(t, s, link, ^w, ^w, true)
		has(t, s, link, v)
	}
}

// Promise 6.1: the first and the last slot of the greatest Store, and all between them, keep their versions apart, each word of which is its own.
func TestVersionsAreApart(t *testing.T) {
	s := made(t, mostSlots)
	var links []uint64
	var versions []api.Version
	for i := range mostSlots {
		links = append(links, makes(t, s, at(i, 0), number(i)))
		versions = append(versions, number(i))
	}
	for i, w := range links {
		v := &versions[i]
		sets(t, s, w, 65535-i, api.OK)
		leads(t, s, w, at(mostSlots-1-i, 0), api.OK)
		begins(t, s, w, v.Begin, uint64(1000000+i), true)
		ends(t, s, w, v.End, uint64(2000000+i), true)
		*v = api.Version{Key: i % 64, Value: 65535 - i, Begin: uint64(1000000 + i), End: uint64(2000000 + i), Next: at(mostSlots-1-i, 0)}
	}
	holds(t, s, links, versions)
	refuses(t, s, at(mostSlots, 0))
	refuses(t, s, at(mostSlots-1, 1))
}

// Promise 6.1: Links is in the order of the slots, which is not that in which the versions were made, nor that of their tags.
func TestLinksInOrder(t *testing.T) {
	s := made(t, 4)
	for i := range 4 {
		makes(t, s, at(i, 0), number(i))
	}
	frees(t, s, at(0, 0))
	makes(t, s, at(0, 1), number(4))
	frees(t, s, at(0, 1))
	frees(t, s, at(2, 0))
	makes(t, s, at(2, 1), number(5))
	makes(t, s, at(0, 2), number(6))
	holds(t, s, []uint64{at(0, 2), at(1, 0), at(2, 1), at(3, 0)}, []api.Version{number(6), number(1), number(5), number(3)})
}

// Promise 6.1: Links shares nothing with the Store, nor with what an earlier call returned, the room behind its links included.
func TestLinksAreLentToNobody(t *testing.T) {
	s := made(t, 4)
	want := []uint64{makes(t, s, at(0, 0), number(0)), makes(t, s, at(1, 0), number(1))}
	l, m := s.Links(), s.Links()
	for i := range l {
		l[i] = 77
	}
	l = append(l, 78, 79)
	if !slices.Equal(m, want) {
		t.Errorf("the other list became %v", m)
	}
	holds(t, s, want, []api.Version{number(0), number(1)})
	makes(t, s, at(2, 0), number(2))
	frees(t, s, at(0, 0))
	if !slices.Equal(m, want) || !slices.Equal(l, []uint64{77, 77, 78, 79}) {
		t.Errorf("lists from before became %v and %v", m, l)
	}
	holds(t, s, []uint64{at(1, 0), at(2, 0)}, []api.Version{number(1), number(2)})
}

// Promise 6.1: two Stores have nothing in common, though their links are the same.
func TestStoresAreApart(t *testing.T) {
	r, s := made(t, 2), made(t, 3)
	a := makes(t, r, at(0, 0), number(1))
	holds(t, s, nil, nil)
	refuses(t, s, a)
	makes(t, s, a, number(2))
	makes(t, s, at(1, 0), number(3))
	sets(t, r, a, 9, api.OK)
	leads(t, r, a, 8, api.OK)
	begins(t, r, a, number(1).Begin, 7, true)
	ends(t, r, a, number(1).End, 6, true)
	holds(t, s, []uint64{a, at(1, 0)}, []api.Version{number(2), number(3)})
	frees(t, s, a)
	holds(t, r, []uint64{a}, []api.Version{{Key: 1, Value: 9, Begin: 7, End: 6, Next: 8}})
}

// Promise 6.1: what only tells changes nothing, however often it is asked.
func TestTellingChangesNothing(t *testing.T) {
	s := made(t, 3)
	a, b := makes(t, s, at(0, 0), number(1)), makes(t, s, at(1, 0), number(2))
	frees(t, s, a)
	for range 5 {
		for _, w := range append(oddWords(), a, b, at(0, 1), at(2, 0)) {
			s.Get(w)
		}
		s.Used()
		s.Links()
	}
	holds(t, s, []uint64{b}, []api.Version{number(2)})
	makes(t, s, at(0, 1), number(3))
	makes(t, s, at(2, 0), number(4))
	refusesMake(t, s, 1, 2, 3, 4, api.ErrFull)
}

// plain is what the document says of a Store, told by lists that are searched from end to end: the tag of each slot, its version or nil, and the slots that were given back, the last one last.
type plain struct {
	tags     []int
	versions []*api.Version
	back     []int
	never    int
}

func plainOf(slots int) *plain {
	return &plain{tags: make([]int, slots), versions: make([]*api.Version, slots)}
}

func (p *plain) make(v api.Version) (uint64, api.Errno) {
	if v.Key < 0 || v.Key > 63 || v.Value < 0 || v.Value > 65535 {
		return 0, api.ErrArg
	}
	i := p.never
	if n := len(p.back); n > 0 {
		i, p.back = p.back[n-1], p.back[:n-1]
	} else if p.never == len(p.tags) {
		return 0, api.ErrFull
	} else {
		p.never++
	}
	p.versions[i] = &v
	return at(i, p.tags[i]), api.OK
}

// find returns the slot of a link, or -1.
func (p *plain) find(link uint64) int {
	for i, v := range p.versions {
		if v != nil && at(i, p.tags[i]) == link {
			return i
		}
	}
	return -1
}

func (p *plain) free(link uint64) api.Errno {
	i := p.find(link)
	if i < 0 {
		return api.ErrStale
	}
	p.versions[i] = nil
	p.tags[i]++
	p.back = append(p.back, i)
	return api.OK
}

func (p *plain) set(link uint64, value int) api.Errno {
	i := p.find(link)
	if i < 0 {
		return api.ErrStale
	}
	if value < 0 || value > 65535 {
		return api.ErrArg
	}
	p.versions[i].Value = value
	return api.OK
}

func (p *plain) next(link, to uint64) api.Errno {
	i := p.find(link)
	if i < 0 {
		return api.ErrStale
	}
	p.versions[i].Next = to
	return api.OK
}

func (p *plain) begin(link, old, new uint64) bool {
	i := p.find(link)
	if i < 0 || p.versions[i].Begin != old {
		return false
	}
	p.versions[i].Begin = new
	return true
}

func (p *plain) end(link, old, new uint64) bool {
	i := p.find(link)
	if i < 0 || p.versions[i].End != old {
		return false
	}
	p.versions[i].End = new
	return true
}

// same holds all that a Store tells against the plain one.
func same(t *testing.T, s *Store, p *plain) {
	t.Helper()
	var l []uint64
	var vs []api.Version
	for i, v := range p.versions {
		if v != nil {
			l = append(l, at(i, p.tags[i]))
			vs = append(vs, *v)
		}
	}
	holds(t, s, l, vs)
}

// The calls of the runs below, each with what it takes at the most.
const (
	callMake = iota
	callFree
	callSet
	callNext
	callBegin
	callEnd
	callKinds
)

type call struct {
	kind     int
	link     uint64
	n        int
	old, new uint64
}

// both makes one call of a Store and of the plain one, holds their answers against each other, and returns the link of a Make.
func both(t *testing.T, s *Store, p *plain, c call) uint64 {
	t.Helper()
	var w, w1 uint64
	var e, e1 api.Errno
	var ok, ok1 bool
	switch c.kind {
	case callMake:
		w, e = s.Make(int(c.link), c.n, c.old, c.new)
		w1, e1 = p.make(api.Version{Key: int(c.link), Value: c.n, Begin: c.old, End: c.new})
	case callFree:
		e, e1 = s.Free(c.link), p.free(c.link)
	case callSet:
		e, e1 = s.Set(c.link, c.n), p.set(c.link, c.n)
	case callNext:
		e, e1 = s.Next(c.link, c.new), p.next(c.link, c.new)
	case callBegin:
		ok, ok1 = s.Begin(c.link, c.old, c.new), p.begin(c.link, c.old, c.new)
	case callEnd:
		ok, ok1 = s.End(c.link, c.old, c.new), p.end(c.link, c.old, c.new)
	}
	if w != w1 || e != e1 || ok != ok1 {
		t.Fatalf("%v = %#x, %d, %v; want %#x, %d, %v", c, w, e, ok, w1, e1, ok1)
	}
	return w
}

// Promises 6.1 and 6.2: every sequence of five calls on a small Store, each a Make or a call with one of the links that were ever handed out.
func TestEverySequence(t *testing.T) {
	for _, slots := range []int{1, 2} {
		var from func(calls []call)
		from = func(calls []call) {
			s, p := made(t, slots), plainOf(slots)
			var links []uint64
			for _, c := range calls {
				if w := both(t, s, p, c); w != 0 {
					links = append(links, w)
				}
			}
			same(t, s, p)
			if len(calls) == 5 {
				return
			}
			then := []call{{kind: callMake, link: 63, n: 65535, old: 3, new: ever}, {kind: callMake, link: 64, n: 0}}
			for _, w := range links {
				then = append(then, call{kind: callFree, link: w}, call{kind: callSet, link: w, n: 65536}, call{kind: callSet, link: w, n: 8}, call{kind: callNext, link: w, new: w}, call{kind: callBegin, link: w, old: 3, new: 4}, call{kind: callEnd, link: w, old: ever, new: 3})
			}
			for _, c := range then {
				from(append(slices.Clone(calls), c))
			}
		}
		from(nil)
	}
}

// Promises 6.1 and 6.2: long runs of calls, against the lists above: each call answers as they do, and what is told behind it is the same.
func TestRuns(t *testing.T) {
	seed := uint64(1)
	next := func(m int) int {
		seed = seed*6364136223846793005 + 1442695040888963407
		return int(seed >> 33 % uint64(m))
	}
	few := []uint64{0, 3, 4, ever, txn(1), txn(2)}
	values := []int{-1, 0, 1, 9, 65535, 65536}
	for range 500 {
		slots := 1 + next(6)
		s, p := made(t, slots), plainOf(slots)
		links := []uint64{0, at(slots, 0)}
		for range 150 {
			c := call{kind: next(callKinds), n: values[next(len(values))], old: few[next(len(few))], new: few[next(len(few))]}
			c.link = links[next(len(links))]
			if l := s.Links(); len(l) > 0 && next(4) > 0 {
				c.link = l[next(len(l))]
			}
			if c.kind == callMake {
				c.link = uint64(next(65))
			}
			if w := both(t, s, p, c); w != 0 {
				links = append(links, w)
			}
			same(t, s, p)
			for _, w := range links {
				if _, ok := s.Get(w); ok != (p.find(w) >= 0) {
					t.Fatalf("Get(%#x) = %v", w, ok)
				}
			}
		}
	}
}

// Promise 6.2: a version that has been freed is never returned again, though its slot gets a version that is the same in all its fields.
func TestFreedIsNeverReturnedAgain(t *testing.T) {
	s := made(t, 2)
	v := api.Version{Key: 1, Value: 2, Begin: 3, End: ever}
	kept := makes(t, s, at(0, 0), v)
	var gone []uint64
	for tag := range 300 {
		w := makes(t, s, at(1, tag), v)
		for _, g := range gone {
			if got, ok := s.Get(g); ok || got != (api.Version{}) {
				t.Fatalf("Get(%#x) = %v, %v behind its Free", g, got, ok)
			}
		}
		holds(t, s, []uint64{kept, w}, []api.Version{v, v})
		frees(t, s, w)
		gone = append(gone, w)
		refuses(t, s, w)
	}
	for _, g := range gone {
		refuses(t, s, g)
	}
}

// W4: of all that would end a version that nobody has ended, the first one does and the others do not, whoever they are, until it gives up.
func TestTheFirstEndsAVersion(t *testing.T) {
	const many = 4
	for first := 1; first <= many; first++ {
		s := made(t, 1)
		w := makes(t, s, at(0, 0), api.Version{Key: 1, Value: 2, Begin: 3, End: ever})
		ends(t, s, w, ever, txn(first), true)
		for id := 1; id <= many; id++ {
			ends(t, s, w, ever, txn(id), false)
			if id != first {
				ends(t, s, w, txn(id), ever, false)
				ends(t, s, w, txn(id), 9, false)
			}
			has(t, s, w, api.Version{Key: 1, Value: 2, Begin: 3, End: txn(first)})
		}
		second := first%many + 1
		ends(t, s, w, txn(first), ever, true)
		ends(t, s, w, txn(first), 9, false)
		ends(t, s, w, ever, txn(second), true)
		ends(t, s, w, ever, txn(first), false)
		ends(t, s, w, txn(second), 9, true)
		for id := 1; id <= many; id++ {
			ends(t, s, w, ever, txn(id), false)
			ends(t, s, w, txn(id), ever, false)
		}
		has(t, s, w, api.Version{Key: 1, Value: 2, Begin: 3, End: 9})
	}
}

// W4: a transaction that comes with the link of a version that is gone ends nothing, though the version that has its slot now could be ended.
func TestALateComerEndsNothing(t *testing.T) {
	s := made(t, 1)
	v := api.Version{Key: 1, Value: 2, Begin: 3, End: ever}
	old := makes(t, s, at(0, 0), v)
	frees(t, s, old)
	ends(t, s, old, ever, txn(1), false)
	w := makes(t, s, at(0, 1), v)
	ends(t, s, old, ever, txn(1), false)
	begins(t, s, old, 3, txn(1), false)
	has(t, s, w, v)
	ends(t, s, w, ever, txn(2), true)
	begins(t, s, w, 3, txn(2), true)
	has(t, s, w, api.Version{Key: 1, Value: 2, Begin: txn(2), End: txn(2)})
}

// workers is how many call at a time in the tests of the section Ways.
const workers = 8

// together has each worker run, all at a time, and returns when all of them are done.
func together(run func(k int)) {
	var all sync.WaitGroup
	start := make(chan struct{})
	for k := range workers {
		all.Go(func() {
			<-start
			run(k)
		})
	}
	close(start)
	all.Wait()
}

// came tells of each worker and of each slot whether an exchange came about.
type came [workers][mostSlots]bool

// winner returns the word of the only worker whose exchange at a slot came about.
func (c *came) winner(t *testing.T, slot int) uint64 {
	t.Helper()
	found := uint64(0)
	for k := range workers {
		if !c[k][slot] {
			continue
		}
		if found != 0 {
			t.Fatalf("slot %d: two exchanges came about", slot)
		}
		found = txn(k + 1)
	}
	if found == 0 {
		t.Fatalf("slot %d: no exchange came about", slot)
	}
	return found
}

// Section Ways and W4: where many exchange a word of a version at a time, one of them does, and its word stands, be it the begin or the end word.
func TestOneExchangeComesAbout(t *testing.T) {
	for range 6 {
		s := made(t, mostSlots)
		for i := range mostSlots {
			makes(t, s, at(i, 0), api.Version{Key: i % 64, Value: i, Begin: 3, End: ever})
		}
		var begun, ended came
		together(func(k int) {
			for i := range mostSlots {
				begun[k][i] = s.Begin(at(i, 0), 3, txn(k+1))
				ended[k][i] = s.End(at(i, 0), ever, txn(k+1))
			}
		})
		for i := range mostSlots {
			has(t, s, at(i, 0), api.Version{Key: i % 64, Value: i, Begin: begun.winner(t, i), End: ended.winner(t, i)})
		}
	}
}

// Section Ways: where many count by exchanges of the same two words at a time, each exchange that comes about counts, and none touches the other word, the value, the next link or a neighbour.
func TestNoExchangeIsLost(t *testing.T) {
	const each = 20000
	s := made(t, 3)
	for i := range 3 {
		makes(t, s, at(i, 0), api.Version{Key: i, Value: i})
	}
	w := at(1, 0)
	var begun, ended [workers]uint64
	together(func(k int) {
		for range each {
			v, _ := s.Get(w)
			if s.Begin(w, v.Begin, v.Begin+1) {
				begun[k]++
			}
			if s.End(w, v.End, v.End+1<<32) {
				ended[k]++
			}
		}
	})
	want := api.Version{Key: 1, Value: 1}
	for k := range workers {
		want.Begin += begun[k]
		want.End += ended[k] << 32
	}
	if want.Begin < each || want.End < each<<32 {
		t.Errorf("%d and %d exchanges came about, of %d times that all of them tried", want.Begin, want.End>>32, each)
	}
	holds(t, s, []uint64{at(0, 0), w, at(2, 0)}, []api.Version{{}, want, {Key: 2, Value: 2}})
}

// Section Ways: every word that is seen while others change it is one that was set, as a whole, and never goes back; changes of different words do not meet.
func TestLooksAreWhole(t *testing.T) {
	const steps = 5000
	s := made(t, 1)
	w := makes(t, s, at(0, 0), api.Version{Key: 9})
	// twice is a word whose halves are the same.
	twice := func(n int) uint64 { return uint64(n)<<32 | uint64(n) }
	good := make([]bool, workers)
	together(func(k int) {
		good[k] = true
		was := api.Version{}
		for n := range steps {
			switch k {
			case 0:
				good[k] = good[k] && s.Begin(w, twice(n), twice(n+1))
			case 1:
				good[k] = good[k] && s.End(w, twice(n), twice(n+1))
			case 2:
				good[k] = good[k] && s.Next(w, twice(n+1)) == api.OK
			case 3:
				good[k] = good[k] && s.Set(w, n+1) == api.OK
			default:
				v, ok := s.Get(w)
				whole := v.Begin>>32 == v.Begin&math.MaxUint32 && v.End>>32 == v.End&math.MaxUint32 && v.Next>>32 == v.Next&math.MaxUint32
				good[k] = good[k] && ok && v.Key == 9 && whole && v.Begin >= was.Begin && v.End >= was.End && v.Next >= was.Next && v.Value >= was.Value
				was = v
			}
		}
	})
	if slices.Contains(good, false) {
		t.Errorf("a worker saw or met what cannot be: %v", good)
	}
	has(t, s, w, api.Version{Key: 9, Value: steps, Begin: twice(steps), End: twice(steps), Next: twice(steps)})
}

// Promise 6.3: no call panics, whatever it is given and whatever has been made.
func TestNoCallPanics(t *testing.T) {
	defer func() {
		if r := recover(); r != nil {
			t.Errorf("panic: %v", r)
		}
	}()
	ints := append(append(wrongKeys(), wrongValues()...), 0, 1, 4096, 4097)
	numbers := append(append(words(), oddWords()...), at(0, 0), at(0, 1), at(1, 0), at(4095, 0))
	for _, slots := range ints {
		New(slots)
	}
	for _, slots := range []int{1, 2, 4096} {
		s := made(t, slots)
		for range 3 {
			for _, n := range ints {
				for _, m := range ints {
					s.Make(n, m, uint64(n), uint64(m))
				}
			}
			for _, w := range numbers {
				for _, n := range ints {
					s.Set(w, n)
				}
				for _, to := range numbers {
					s.Next(w, to)
					s.Begin(w, to, w)
					s.End(w, to, w)
				}
				s.Get(w)
			}
			s.Used()
			s.Links()
			for _, w := range numbers {
				s.Free(w)
			}
		}
	}
}
