package judge

import (
	"errors"
	"math"
	"slices"
	"testing"

	"vinculum/api"
	"vinculum/reads"
)

// The levels by the numbers of the chapter.
const (
	snap   = 1
	repeat = 2
	serial = 3
)

// keys is how many keys there are, and spans how many spans a Set has room for, by the numbers of chapter 13.
const (
	keys  = 64
	spans = 64
)

func levels() []int { return []int{snap, repeat, serial} }

// noLevels are the numbers next to the levels, those that wrap round to a level in fewer bits, and the ends of the kind int.
func noLevels() []int {
	return []int{math.MinInt, math.MinInt + 1, math.MinInt + 3, -1 << 32, -1<<32 + 2, -256 + 1, -3, -2, -1, 0, 4, 5, 6, 7, 257, 258, 259, 65536 + 3, 1 << 32, 1<<32 + 1, 1<<32 + 2, 1<<32 + 3, math.MaxInt - 1, math.MaxInt}
}

func allLevels() []int { return append(noLevels(), levels()...) }

// someLinks are none, one, and words of every kind.
func someLinks() []uint64 {
	return []uint64{0, 1, 2, 5, 63, 64, 1<<32 - 1, 1 << 32, 1<<32 + 1, 1 << 61, 1 << 62, 1 << 63, 1<<63 + 1, math.MaxUint64 - 1, math.MaxUint64}
}

// someLists are all lists of at most three of three links.
func someLists() [][]uint64 {
	l := [][]uint64{nil, {}}
	for from, n := 1, 1; n <= 3; n++ {
		upto := len(l)
		for _, x := range l[from:upto] {
			for _, link := range []uint64{0, 7, 1 << 62} {
				l = append(l, append(slices.Clone(x), link))
			}
		}
		from = upto
	}
	return l
}

// plainKey tells what Key is to return, by the sentences of the chapter.
func plainKey(level int, link, now uint64) bool {
	switch level {
	case 1:
		return true
	case 2:
		return link == 0 || now == link
	case 3:
		return now == link
	default:
		return false
	}
}

// plainSpan tells what Span is to return.
func plainSpan(level int, was, now []uint64) bool {
	switch level {
	case 1, 2:
		return true
	case 3:
		if len(was) != len(now) {
			return false
		}
		for i := range was {
			if was[i] != now[i] {
				return false
			}
		}
		return true
	default:
		return false
	}
}

// look is a read of one key and what it found.
type look struct {
	key  int
	link uint64
}

// taken is a Set and, beside it, what it was told: the first read of each key, in order, and the spans.
type taken struct {
	set   *reads.Set
	looks []look
	spans []api.Scan
}

func made() *taken { return &taken{set: reads.New()} }

func (x *taken) add(t *testing.T, key int, link uint64) {
	t.Helper()
	if e := x.set.Add(key, link); e != api.OK {
		t.Fatalf("Add(%d, %d) = %d", key, link, e)
	}
	if !slices.ContainsFunc(x.looks, func(l look) bool { return l.key == key }) {
		x.looks = append(x.looks, look{key, link})
	}
}

func (x *taken) span(t *testing.T, lo, hi int, links ...uint64) {
	t.Helper()
	if e := x.set.Span(lo, hi, links); e != api.OK {
		t.Fatalf("Span(%d, %d, %v) = %d", lo, hi, links, e)
	}
	x.spans = append(x.spans, api.Scan{Lo: lo, Hi: hi, Links: slices.Clone(links)})
}

// needs tells what Needs is to return.
func (x *taken) needs(level int) (keys []int, spans []api.Scan) {
	switch level {
	case 2:
		for _, l := range x.looks {
			if l.link != 0 {
				keys = append(keys, l.key)
			}
		}
	case 3:
		for _, l := range x.looks {
			keys = append(keys, l.key)
		}
		spans = x.spans
	}
	return keys, spans
}

// asked is one call of now, which has a key and -1, or of span.
type asked struct{ lo, hi int }

// all tells what All is to return where now and span tell what is in w, and which calls of the two it is to make.
func (x *taken) all(level int, w *world) (bool, int, []asked) {
	if level < 1 || level > 3 {
		return false, -1, nil
	}
	var calls []asked
	keys, spans := x.needs(level)
	for _, key := range keys {
		calls = append(calls, asked{key, -1})
		i := slices.IndexFunc(x.looks, func(l look) bool { return l.key == key })
		if !plainKey(level, x.looks[i].link, w.now(key)) {
			return false, key, calls
		}
	}
	for _, p := range spans {
		calls = append(calls, asked{p.Lo, p.Hi})
		if !plainSpan(level, p.Links, w.span(p.Lo, p.Hi)) {
			return false, p.Lo, calls
		}
	}
	return true, -1, calls
}

// world is the link of the version that each key has at a moment, or 0.
type world [keys]uint64

func (w *world) now(key int) uint64 { return w[key] }

// span is the versions of a range, as a list whose spare room is not its own.
func (w *world) span(lo, hi int) []uint64 {
	l := make([]uint64, 0, keys+1)
	for _, link := range w[lo : hi+1] {
		if link != 0 {
			l = append(l, link)
		}
	}
	return l
}

func sameSpan(a, b api.Scan) bool {
	return a.Lo == b.Lo && a.Hi == b.Hi && slices.Equal(a.Links, b.Links)
}

// needed holds what Needs tells of a Set, which it tells each time.
func (x *taken) needed(t *testing.T, level int) {
	t.Helper()
	keys, spans := x.needs(level)
	for range 2 {
		if k, s := Needs(level, x.set); !slices.Equal(k, keys) || !slices.EqualFunc(s, spans, sameSpan) {
			t.Errorf("Needs(%d) = %v, %v; want %v, %v", level, k, s, keys, spans)
		}
	}
}

// judged holds what All tells of a Set in a world, and that it asks for each read once, in order, up to the first one that does not hold.
func (x *taken) judged(t *testing.T, level int, w *world) bool {
	t.Helper()
	var calls []asked
	now := func(key int) uint64 {
		calls = append(calls, asked{key, -1})
		return w.now(key)
	}
	span := func(lo, hi int) []uint64 {
		calls = append(calls, asked{lo, hi})
		return w.span(lo, hi)
	}
	ok, at := All(level, x.set, now, span)
	wantOK, wantAt, want := x.all(level, w)
	if ok != wantOK || at != wantAt || !slices.Equal(calls, want) {
		t.Errorf("All(%d) = %v, %d by %v; want %v, %d by %v", level, ok, at, calls, wantOK, wantAt, want)
	}
	return ok
}

// tells holds all that is told of a Set, at every level, in the world that it was read in, in an empty one and in ones that differ from it in one key.
func (x *taken) tells(t *testing.T, w *world) {
	t.Helper()
	for _, level := range allLevels() {
		x.needed(t, level)
		x.judged(t, level, w)
		x.judged(t, level, &world{})
	}
	for n := range w {
		other := *w
		other[n] ^= 1 << 40
		for _, level := range levels() {
			x.judged(t, level, &other)
		}
	}
}

// filled is a Set with some keys, two of them without a version, and three spans, and the world that all of it was read in.
func filled(t *testing.T) (*taken, *world) {
	t.Helper()
	w := &world{0: math.MaxUint64, 4: 40, 5: 50, 7: 70, 63: 630}
	x := made()
	x.add(t, 7, w[7])
	x.span(t, 3, 5, w[4], w[5])
	x.add(t, 2, 0)
	x.span(t, 10, 20)
	x.add(t, 0, w[0])
	x.span(t, 5, 63, w[5], w[7], w[63])
	x.add(t, 63, w[63])
	x.add(t, 1, 0)
	return x, w
}

// full is a Set with all keys, every fourth of them without a version, and as many spans as there is room for.
func full(t *testing.T) (*taken, *world) {
	t.Helper()
	w := &world{}
	for n := range keys {
		if n%4 != 0 {
			w[n] = uint64(n) << 20
		}
	}
	x := made()
	for n := range keys {
		x.add(t, n*27%keys, w[n*27%keys])
	}
	for n := range spans {
		x.span(t, n/2, n, w.span(n/2, n)...)
	}
	return x, w
}

// Promise 15.1: the examples of the chapter.
func TestExamples(t *testing.T) {
	if !Key(api.LRepeat, 0, 5) || Key(api.LSerial, 0, 5) {
		t.Error(Key(api.LRepeat, 0, 5), Key(api.LSerial, 0, 5))
	}
}

// Promise 15.1: Key, at every level and at what is none, with each link beside each one.
func TestEveryKey(t *testing.T) {
	for _, level := range allLevels() {
		for _, link := range someLinks() {
			for _, now := range someLinks() {
				if got, want := Key(level, link, now), plainKey(level, link, now); got != want {
					t.Errorf("Key(%d, %d, %d) = %v, want %v", level, link, now, got, want)
				}
			}
		}
	}
}

// Promise 15.1: Key tells links apart that differ in one bit, whichever.
func TestKeyByBits(t *testing.T) {
	for i := range 64 {
		for _, link := range someLinks() {
			now := link ^ 1<<i
			if !Key(snap, link, now) || Key(serial, link, now) || Key(repeat, link, now) != (link == 0) {
				t.Errorf("bit %d of %d", i, link)
			}
		}
	}
}

// Promise 15.1: Span, at every level and at what is none, with each short list beside each one; nil and empty are the same.
func TestEverySpan(t *testing.T) {
	for _, level := range allLevels() {
		for _, was := range someLists() {
			for _, now := range someLists() {
				if got, want := Span(level, was, now), plainSpan(level, was, now); got != want {
					t.Errorf("Span(%d, %v, %v) = %v, want %v", level, was, now, got, want)
				}
			}
		}
	}
}

// Promise 15.1: long lists that are equal, that differ in one place, whichever, by two in the other order, or by one at either end.
func TestLongSpans(t *testing.T) {
	was := make([]uint64, 200)
	for i := range was {
		was[i] = uint64(i*i) << 30
	}
	holds := func(now []uint64, want bool) {
		t.Helper()
		for _, level := range levels() {
			if got := Span(level, was, now); got != (want || level != serial) {
				t.Errorf("Span(%d) = %v", level, got)
			}
			if got := Span(level, now, was); got != (want || level != serial) {
				t.Errorf("Span(%d) the other way = %v", level, got)
			}
		}
	}
	holds(was, true)
	holds(slices.Clone(was), true)
	for i := range was {
		now := slices.Clone(was)
		now[i] ^= 1 << (i % 64)
		holds(now, false)
		now[i] = was[i]
		if i > 0 {
			now[i], now[i-1] = now[i-1], now[i]
			holds(now, false)
		}
		holds(was[:i], false)
		holds(slices.Delete(slices.Clone(was), i, i+1), false)
		holds(slices.Insert(slices.Clone(was), i, 5), false)
	}
	holds(append(slices.Clone(was), 0), false)
}

// Promise 15.1: what Needs tells of Sets with no reads, some and all.
func TestNeeds(t *testing.T) {
	x, _ := filled(t)
	y, _ := full(t)
	for _, x := range []*taken{made(), x, y} {
		for _, level := range allLevels() {
			x.needed(t, level)
		}
	}
	k, s := Needs(repeat, x.set)
	if !slices.Equal(k, []int{7, 0, 63}) || len(s) != 0 {
		t.Error(k, s)
	}
	k, s = Needs(serial, x.set)
	if !slices.Equal(k, []int{7, 2, 0, 63, 1}) || len(s) != 3 || s[1].Lo != 10 || s[1].Hi != 20 || len(s[1].Links) != 0 {
		t.Error(k, s)
	}
}

// Promise 15.1: a key counts with the link that was read first, also where that is 0 or a later one is.
func TestFirstLinkCounts(t *testing.T) {
	x := made()
	for _, l := range []look{{5, 0}, {9, 3}, {5, 8}, {9, 0}, {9, 4}, {1, 6}, {5, 0}} {
		x.add(t, l.key, l.link)
	}
	if k, _ := Needs(repeat, x.set); !slices.Equal(k, []int{9, 1}) {
		t.Error(k)
	}
	x.tells(t, &world{1: 6, 9: 3})
	x.tells(t, &world{1: 6, 5: 8, 9: 3})
	x.tells(t, &world{1: 6, 9: 4})
}

// Promise 15.1: no Set has no reads, and none of them holds, whatever the level and the functions are.
func TestNoSet(t *testing.T) {
	called := false
	now := func(int) uint64 { called = true; return 0 }
	span := func(int, int) []uint64 { called = true; return nil }
	for _, level := range allLevels() {
		if k, s := Needs(level, nil); len(k) != 0 || len(s) != 0 {
			t.Error(level, k, s)
		}
		if ok, at := All(level, nil, nil, nil); ok || at != -1 {
			t.Error(level, ok, at)
		}
		if ok, at := All(level, nil, now, span); ok || at != -1 {
			t.Error(level, ok, at)
		}
	}
	if called {
		t.Error("a function was called")
	}
}

// Promise 15.1: at what is no level nothing is examined, and nothing holds, also of a Set without reads.
func TestNoLevel(t *testing.T) {
	x, w := filled(t)
	for _, level := range noLevels() {
		for _, x := range []*taken{made(), x} {
			if x.judged(t, level, w) {
				t.Error(level)
			}
			if ok, at := All(level, x.set, nil, nil); ok || at != -1 {
				t.Error(level, ok, at)
			}
		}
	}
}

// Promise 15.1: a Set without reads holds at every level, and asks for nothing.
func TestNoReads(t *testing.T) {
	for _, level := range levels() {
		if !made().judged(t, level, &world{3: 4}) {
			t.Error(level)
		}
		if ok, at := All(level, reads.New(), nil, nil); !ok || at != -1 {
			t.Error(level, ok, at)
		}
	}
}

// Promise 15.1: Sets with some reads and with all, in the world that they were read in, in an empty one and in ones where one key differs.
func TestAll(t *testing.T) {
	made().tells(t, &world{5: 6})
	x, w := filled(t)
	for _, level := range levels() {
		if !x.judged(t, level, w) {
			t.Errorf("level %d: what was read does not hold", level)
		}
	}
	x.tells(t, w)
	y, w := full(t)
	for _, level := range levels() {
		if !y.judged(t, level, w) {
			t.Errorf("level %d: what was read does not hold", level)
		}
	}
	y.tells(t, w)
}

// Promise 15.1: the first read that does not hold is told: keys ahead of spans, in the order of the Set, not of the numbers; of a span its Lo, whichever of its keys changed.
func TestFirstFault(t *testing.T) {
	x, w := filled(t)
	for _, c := range []struct {
		level, at int
		changed   []int
	}{
		{serial, 7, []int{0, 1, 2, 4, 7, 63}},
		{serial, 2, []int{0, 1, 2, 4, 63}},
		{serial, 0, []int{0, 1, 4, 63}},
		{serial, 63, []int{1, 4, 63}},
		{serial, 1, []int{1, 4}},
		{serial, 3, []int{4, 12, 30}},
		{serial, 3, []int{5}},
		{serial, 10, []int{12, 30}},
		{serial, 5, []int{30}},
		{repeat, 7, []int{0, 1, 2, 7, 63}},
		{repeat, 0, []int{0, 1, 2, 63}},
		{repeat, 63, []int{1, 2, 63}},
		{repeat, -1, []int{1, 2, 4, 12, 30}},
		{snap, -1, []int{0, 1, 2, 4, 7, 12, 30, 63}},
	} {
		now := *w
		for _, n := range c.changed {
			now[n] ^= 1
		}
		x.judged(t, c.level, &now)
		ok, at := All(c.level, x.set, now.now, now.span)
		if ok != (c.at == -1) || at != c.at {
			t.Errorf("level %d, changed %v: %v, %d; want %d", c.level, c.changed, ok, at, c.at)
		}
	}
}

// Promise 15.1: key 0 and a span from 0 are told as any other.
func TestFaultAtZero(t *testing.T) {
	x := made()
	x.add(t, 0, 5)
	for _, level := range []int{repeat, serial} {
		if ok, at := All(level, x.set, nil, nil); ok || at != 0 {
			t.Error(level, ok, at)
		}
	}
	x = made()
	x.span(t, 0, 4, 5)
	if ok, at := All(serial, x.set, nil, nil); ok || at != 0 {
		t.Error(ok, at)
	}
}

// Promise 15.1: where now is nil every version is 0, and where span is nil every range is without versions; the other one is asked as ever.
func TestNilFunctions(t *testing.T) {
	x, w := filled(t)
	y := made()
	y.add(t, 8, 0)
	y.span(t, 8, 9)
	z := made()
	z.add(t, 8, 0)
	z.span(t, 7, 8, 4)
	u := made()
	u.span(t, 6, 9, 4)
	for _, x := range []*taken{made(), x, y, z, u} {
		for _, w := range []*world{w, {}, {8: 4}} {
			for _, level := range levels() {
				ok, at := All(level, x.set, nil, w.span)
				keysGone := *w
				var none []look
				for _, l := range x.looks {
					if l.link != 0 {
						none = append(none, l)
					}
				}
				wantOK, wantAt := true, -1
				switch {
				case level != snap && len(none) > 0:
					wantOK, wantAt = false, none[0].key
				case level == serial:
					wantOK, wantAt, _ = (&taken{spans: x.spans}).all(level, &keysGone)
				}
				if ok != wantOK || at != wantAt {
					t.Errorf("now is nil, level %d: %v, %d; want %v, %d", level, ok, at, wantOK, wantAt)
				}
				ok, at = All(level, x.set, w.now, nil)
				wantOK, wantAt, _ = (&taken{looks: x.looks}).all(level, w)
				if wantOK {
					wantOK, wantAt, _ = (&taken{spans: x.spans}).all(level, &world{})
				}
				if ok != wantOK || at != wantAt {
					t.Errorf("span is nil, level %d: %v, %d; want %v, %d", level, ok, at, wantOK, wantAt)
				}
				ok, at = All(level, x.set, nil, nil)
				if wantOK, wantAt, _ = x.all(level, &world{}); ok != wantOK || at != wantAt {
					t.Errorf("both are nil, level %d: %v, %d; want %v, %d", level, ok, at, wantOK, wantAt)
				}
			}
		}
	}
}

// Section Ways: each read that the level asks for is examined once: a range that was read twice twice, and at LSnap nothing.
func TestExaminedOnce(t *testing.T) {
	x := made()
	w := &world{3: 30, 4: 40}
	for range 3 {
		x.add(t, 3, w[3])
		x.span(t, 2, 5, w.span(2, 5)...)
		x.add(t, 9, 0)
	}
	for level, want := range map[int][]asked{snap: nil, repeat: {{3, -1}}, serial: {{3, -1}, {9, -1}, {2, 5}, {2, 5}, {2, 5}}} {
		var calls []asked
		ok, at := All(level, x.set, func(key int) uint64 {
			calls = append(calls, asked{key, -1})
			return w[key]
		}, func(lo, hi int) []uint64 {
			calls = append(calls, asked{lo, hi})
			return w.span(lo, hi)
		})
		if !ok || at != -1 || !slices.Equal(calls, want) {
			t.Error(level, ok, at, calls)
		}
	}
}

// Promise 15.1: every sequence of four reads of two keys, the range of both and a part of it, in every world of two keys with three links each.
func TestEverySequence(t *testing.T) {
	const calls = 4
	all := []func(x *taken){
		func(x *taken) {},
		func(x *taken) { x.add(t, 0, 0) },
		func(x *taken) { x.add(t, 0, 4) },
		func(x *taken) { x.add(t, 63, 0) },
		func(x *taken) { x.add(t, 63, 9) },
		func(x *taken) { x.span(t, 0, 63) },
		func(x *taken) { x.span(t, 0, 63, 4, 9) },
		func(x *taken) { x.span(t, 63, 63, 9) },
	}
	choices := 1
	for range calls {
		choices *= len(all)
	}
	for number := range choices {
		x := made()
		for rest, n := number, 0; n < calls; n++ {
			all[rest%len(all)](x)
			rest /= len(all)
		}
		for _, level := range []int{0, snap, repeat, serial, 4} {
			x.needed(t, level)
			for _, first := range []uint64{0, 4, 9} {
				for _, last := range []uint64{0, 4, 9} {
					x.judged(t, level, &world{0: first, 63: last})
				}
			}
		}
		if t.Failed() {
			t.Fatalf("sequence %d", number)
		}
	}
}

// spoil writes over a list and over the room behind it.
func spoil[T any](l []T, with T) {
	l = l[:cap(l)]
	for i := range l {
		l[i] = with
	}
}

// Rule 3: what Needs tells is the caller's own: neither the Set nor another answer has it.
func TestResultsApart(t *testing.T) {
	x, w := filled(t)
	k, s := Needs(serial, x.set)
	for range 2 {
		for _, level := range levels() {
			list, l := Needs(level, x.set)
			spoil(list, 77)
			if len(l) > 0 {
				spoil(l[0].Links, 77)
				if !sameSpan(l[2], x.spans[2]) {
					t.Error("lists of one answer share memory:", l)
				}
			}
			for _, p := range l {
				spoil(p.Links, 77)
			}
			spoil(l, api.Scan{Lo: 77})
		}
		x.tells(t, w)
	}
	if want, spans := x.needs(serial); !slices.Equal(k, want) || !slices.EqualFunc(s, spans, sameSpan) {
		t.Error("answers share memory:", k, s)
	}
}

// Rule 3: no list that comes in is changed, nor the room behind it, be it handed to Span or told by span, and none is kept.
func TestArgumentsApart(t *testing.T) {
	room := func() []uint64 { return []uint64{3, 1, 2, 9, 8} }
	for _, level := range allLevels() {
		was, now := room(), room()
		for n := range 4 {
			for m := range 4 {
				Span(level, was[:n], now[:m])
			}
		}
		if !slices.Equal(was, room()) || !slices.Equal(now, room()) {
			t.Error(level, was, now)
		}
		x := made()
		x.add(t, 3, 1)
		x.span(t, 3, 9, 3, 1, 2)
		x.span(t, 3, 9, 3, 1)
		All(level, x.set, func(int) uint64 { return 1 }, func(int, int) []uint64 { return now[:3] })
		if !slices.Equal(now, room()) {
			t.Error(level, now)
		}
		spoil(now, 77)
		for _, level := range allLevels() {
			x.needed(t, level)
		}
		if x.set.Len() != 3 {
			t.Error(x.set.Len())
		}
	}
}

// Rule 3: a list that span tells is not kept to be looked at later: span may use one list for all its answers.
func TestOneListForAll(t *testing.T) {
	x, w := full(t)
	list := make([]uint64, keys)
	span := func(lo, hi int) []uint64 {
		l := w.span(lo, hi)
		return list[:copy(list, l)]
	}
	if ok, at := All(serial, x.set, w.now, span); !ok || at != -1 {
		t.Error(ok, at)
	}
}

// Promise 15.2: what a stronger level lets pass a weaker one lets pass, of keys and of ranges.
func TestWeakerKeysAndSpans(t *testing.T) {
	for strong := repeat; strong <= serial; strong++ {
		for _, link := range someLinks() {
			for _, now := range someLinks() {
				if Key(strong, link, now) && !Key(strong-1, link, now) {
					t.Error(strong, link, now)
				}
			}
		}
		for _, was := range someLists() {
			for _, now := range someLists() {
				if Span(strong, was, now) && !Span(strong-1, was, now) {
					t.Error(strong, was, now)
				}
			}
		}
	}
}

// part tells whether all of l is in m, in the same order.
func part[T any](l, m []T, same func(a, b T) bool) bool {
	for _, x := range m {
		if len(l) > 0 && same(l[0], x) {
			l = l[1:]
		}
	}
	return len(l) == 0
}

// draws is a row of numbers that look drawn.
type draws uint64

func (d *draws) draw(m int) int {
	*d = *d*6364136223846793005 + 1442695040888963407
	return int(*d >> 33 % draws(m))
}

// drawn is a Set that was read while its world changed now and then, and the world after that.
func (d *draws) drawn(t *testing.T) (*taken, *world) {
	var w world
	for n := range w {
		w[n] = uint64(d.draw(3)) << 61
	}
	x := made()
	changes := d.draw(3)
	for range d.draw(40) {
		lo := d.draw(keys)
		if d.draw(2) == 0 {
			x.add(t, lo, w[lo])
		} else {
			hi := lo + d.draw(min(5, keys-lo))
			x.span(t, lo, hi, w.span(lo, hi)...)
		}
		for range changes {
			w[d.draw(keys)] = uint64(d.draw(3)) << 61
		}
	}
	return x, &w
}

// Promises 15.1 and 15.2: long runs; a weaker level needs a part of what a stronger one needs, and lets pass what that lets pass.
func TestRuns(t *testing.T) {
	d := draws(1)
	var passed [4]int
	const rounds = 20000
	for round := range rounds {
		x, w := d.drawn(t)
		for _, level := range allLevels() {
			x.needed(t, level)
		}
		var ok [4]bool
		for _, level := range levels() {
			if ok[level] = x.judged(t, level, w); ok[level] {
				passed[level]++
			}
		}
		for strong := repeat; strong <= serial; strong++ {
			weakKeys, weakSpans := Needs(strong-1, x.set)
			keys, spans := Needs(strong, x.set)
			if !part(weakKeys, keys, func(a, b int) bool { return a == b }) || !part(weakSpans, spans, sameSpan) {
				t.Errorf("level %d needs less than %d", strong, strong-1)
			}
			if ok[strong] && !ok[strong-1] {
				t.Errorf("level %d lets pass what %d does not", strong, strong-1)
			}
		}
		if t.Failed() {
			t.Fatalf("round %d", round)
		}
	}
	if passed[snap] != rounds || passed[repeat] > rounds-2000 || passed[serial] > passed[repeat]-2000 || passed[serial] < 2000 {
		t.Errorf("the runs tell little: %v", passed)
	}
}

// Promise 15.3: a function that panics, by whatever, tells no version and no range, as one that is nil.
func TestFunctionsThatPanic(t *testing.T) {
	var none map[int]*world
	nows := []func(int) uint64{
		func(int) uint64 { panic("now") },
		func(int) uint64 { panic(errors.New("now")) },
		func(int) uint64 { panic(nil) },
		func(key int) uint64 { return none[key][key] },
		func(key int) uint64 { return []uint64{}[key] },
		func(int) (link uint64) {
			defer func() { panic("late") }()
			return 5
		},
	}
	ranges := []func(int, int) []uint64{
		func(int, int) []uint64 { panic("span") },
		func(int, int) []uint64 { panic(errors.New("span")) },
		func(int, int) []uint64 { panic(nil) },
		func(lo, hi int) []uint64 { return none[lo].span(lo, hi) },
		func(lo, hi int) []uint64 { return []uint64{}[lo:hi] },
		func(int, int) (links []uint64) {
			defer func() { panic("late") }()
			return []uint64{5}
		},
	}
	x, w := filled(t)
	y := made()
	y.add(t, 8, 0)
	y.span(t, 8, 9)
	y.span(t, 30, 40, 5)
	z := made()
	z.add(t, 8, 0)
	z.add(t, 5, 5)
	for _, x := range []*taken{made(), x, y, z} {
		for _, level := range allLevels() {
			for i := range nows {
				ok, at := All(level, x.set, nows[i], w.span)
				if wantOK, wantAt := All(level, x.set, nil, w.span); ok != wantOK || at != wantAt {
					t.Errorf("now %d, level %d: %v, %d; want %v, %d", i, level, ok, at, wantOK, wantAt)
				}
				ok, at = All(level, x.set, w.now, ranges[i])
				if wantOK, wantAt := All(level, x.set, w.now, nil); ok != wantOK || at != wantAt {
					t.Errorf("span %d, level %d: %v, %d; want %v, %d", i, level, ok, at, wantOK, wantAt)
				}
			}
		}
	}
}

// Promise 15.3: a function that panics once is asked for what comes after that.
func TestPanicsOnce(t *testing.T) {
	x := made()
	x.add(t, 8, 0)
	x.add(t, 9, 4)
	x.span(t, 1, 2)
	x.span(t, 3, 4, 5)
	first := func() func() {
		calls := 0
		return func() {
			if calls++; calls == 1 {
				panic("once")
			}
		}
	}
	now, span := first(), first()
	if ok, at := All(serial, x.set, func(int) uint64 { now(); return 4 }, func(int, int) []uint64 { span(); return []uint64{5} }); !ok || at != -1 {
		t.Error(ok, at)
	}
}

// Section Ways: reads that the functions add while All goes on are not examined by it, and it ends.
func TestReadsAddedMeanwhile(t *testing.T) {
	x := made()
	x.add(t, 5, 50)
	x.add(t, 3, 0)
	x.span(t, 1, 9, 50)
	var calls []asked
	now := func(key int) uint64 {
		calls = append(calls, asked{key, -1})
		for n := range keys {
			x.set.Add(n, 77)
		}
		return map[int]uint64{5: 50}[key]
	}
	span := func(lo, hi int) []uint64 {
		calls = append(calls, asked{lo, hi})
		for range 70 {
			x.set.Span(0, 63, []uint64{77})
		}
		return []uint64{50}
	}
	if ok, at := All(serial, x.set, now, span); !ok || at != -1 || !slices.Equal(calls, []asked{{5, -1}, {3, -1}, {1, 9}}) {
		t.Error(ok, at, calls)
	}
}

// Promise 15.3: no call panics, whatever the numbers, the lists and the functions are.
func TestHostile(t *testing.T) {
	x, w := filled(t)
	y, _ := full(t)
	long := make([]uint64, 1<<16)
	for _, level := range allLevels() {
		for _, link := range someLinks() {
			for _, now := range someLinks() {
				Key(level, link, now)
			}
		}
		for _, l := range [][]uint64{nil, {}, someLinks(), long} {
			Span(level, l, nil)
			Span(level, nil, l)
			Span(level, l, long)
			for _, s := range []*reads.Set{nil, reads.New(), x.set, y.set} {
				Needs(level, s)
				All(level, s, func(key int) uint64 { return uint64(key) }, func(int, int) []uint64 { return l })
				All(level, s, nil, func(int, int) []uint64 { return l })
				All(level, s, w.now, nil)
				All(level, s, nil, nil)
			}
		}
	}
}
