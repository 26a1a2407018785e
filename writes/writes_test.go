package writes

import (
	"math"
	"slices"
	"testing"

	"vinculum/api"
)

// keys and values are how many of each there are, by the numbers of the chapter.
const (
	keys   = 64
	values = 65536
)

// plain is what the document says of a Set: every write, in order.
type plain []api.Write

func key(n int) bool { return n >= 0 && n <= 63 }

func value(n int) bool { return n >= 0 && n <= 65535 }

// put tells what Put is to return, by the sentences of the chapter.
func (p *plain) put(n, v int) api.Errno {
	if !key(n) || !value(v) {
		return api.ErrArg
	}
	*p = append(*p, api.Write{Key: n, Value: v})
	return api.OK
}

// drop tells what Drop is to return.
func (p *plain) drop(n int) api.Errno {
	if !key(n) {
		return api.ErrArg
	}
	*p = append(*p, api.Write{Key: n, Gone: true})
	return api.OK
}

// last tells the last write of a key, and whether there is one.
func (p plain) last(n int) (api.Write, bool) {
	for i := len(p) - 1; i >= 0; i-- {
		if p[i].Key == n {
			return p[i], true
		}
	}
	return api.Write{}, false
}

// all tells the last writes, each where the first one was.
func (p plain) all() []api.Write {
	var l []api.Write
	for i, w := range p {
		if _, before := p[:i].last(w.Key); !before {
			last, _ := p.last(w.Key)
			l = append(l, last)
		}
	}
	return l
}

// over tells what Over is to return: of each key of either side, ascending, what it then has.
func (p plain) over(l []api.Pair, lo, hi int) []api.Pair {
	var all []int
	had := map[int]int{}
	for i, x := range l {
		if i > 0 && x.Key <= l[i-1].Key {
			return nil
		}
		all = append(all, x.Key)
		had[x.Key] = x.Value
	}
	for _, w := range p {
		all = append(all, w.Key)
	}
	slices.Sort(all)
	var over []api.Pair
	for _, n := range slices.Compact(all) {
		if w, written := p.last(n); written && n >= lo && n <= hi {
			if !w.Gone {
				over = append(over, api.Pair{Key: n, Value: w.Value})
			}
		} else if v, there := had[n]; there {
			over = append(over, api.Pair{Key: n, Value: v})
		}
	}
	return over
}

// pair is a Set beside the plain one.
type pair struct {
	*Set
	p plain
}

// made is an empty Set.
func made(t *testing.T) *pair {
	t.Helper()
	s := New()
	if s == nil {
		t.Fatal("New() = nil")
	}
	return &pair{Set: s}
}

// holds holds the list that a Set tells, which it tells each time, and how long it is.
func (x *pair) holds(t *testing.T) {
	t.Helper()
	all := x.p.all()
	for range 2 {
		if l := x.All(); !slices.Equal(l, all) {
			t.Errorf("All() = %v, want %v", l, all)
		}
		if n := x.Len(); n != len(all) {
			t.Errorf("Len() = %d, want %d", n, len(all))
		}
	}
}

// asks holds what a Set tells of one number.
func (x *pair) asks(t *testing.T, n int) {
	t.Helper()
	v, there, written := x.Get(n)
	w, ok := x.p.last(n)
	if v != w.Value || there != (ok && !w.Gone) || written != ok {
		t.Errorf("Get(%d) = %d, %v, %v; want %v, %v", n, v, there, written, w, ok)
	}
}

// lays holds what a list becomes by the writes from lo to hi.
func (x *pair) lays(t *testing.T, l []api.Pair, lo, hi int) []api.Pair {
	t.Helper()
	got, want := x.Over(l, lo, hi), x.p.over(l, lo, hi)
	if !slices.Equal(got, want) {
		t.Errorf("Over(%v, %d, %d) = %v, want %v, with %v", l, lo, hi, got, want, x.p)
	}
	return got
}

// tells holds all that a Set tells, of keys and of what is no key, alone and laid over lists.
func (x *pair) tells(t *testing.T) {
	t.Helper()
	x.holds(t)
	for n := range keys {
		x.asks(t, n)
	}
	for _, n := range noKeys() {
		x.asks(t, n)
	}
	for _, l := range someLists() {
		x.lays(t, l, 0, 63)
		x.lays(t, l, 3, 40)
	}
}

// puts records a value in both.
func (x *pair) puts(t *testing.T, n, v int) api.Errno {
	t.Helper()
	e := x.Put(n, v)
	if want := x.p.put(n, v); e != want {
		t.Errorf("Put(%d, %d) = %d, want %d", n, v, e, want)
	}
	return e
}

// drops records in both that a key is gone.
func (x *pair) drops(t *testing.T, n int) api.Errno {
	t.Helper()
	e := x.Drop(n)
	if want := x.p.drop(n); e != want {
		t.Errorf("Drop(%d) = %d, want %d", n, e, want)
	}
	return e
}

// The numbers that are no key: those next to the bounds, those that wrap round to a key in fewer bits, and the ends of the kind int.
func noKeys() []int {
	return []int{math.MinInt, math.MinInt + 1, math.MinInt + 5, math.MinInt32, -1 << 32, -1<<32 + 5, -65536, -64, -63, -2, -1, 64, 65, 66, 127, 128, 256, 260, 65536, math.MaxInt32, 1 << 32, 1<<32 + 5, math.MaxInt - 1, math.MaxInt}
}

// The same for values.
func noValues() []int {
	return []int{math.MinInt, math.MinInt + 1, math.MinInt32, -1 << 32, -1<<32 + 5, -65536, -65535, -64, -2, -1, 65536, 65537, 65600, 131071, 131072, math.MaxInt32, 1 << 32, 1<<32 + 5, math.MaxInt - 1, math.MaxInt}
}

// someValues are the ends of the values and some between.
func someValues() []int {
	return []int{0, 1, 2, 63, 64, 255, 256, 32767, 32768, 65534, 65535}
}

// someLists are ascending: without pairs, with one, with all keys, with some of them, and with what is no key or no value.
func someLists() [][]api.Pair {
	all := make([]api.Pair, keys)
	for n := range all {
		all[n] = api.Pair{Key: n, Value: 1000 + n}
	}
	return [][]api.Pair{nil, {}, {{Key: 7, Value: 70}}, all, {{Key: 0, Value: 1}, {Key: 2, Value: 2}, {Key: 63, Value: 3}},
		{{Key: math.MinInt, Value: 1}, {Key: -1, Value: -5}, {Key: 5}, {Key: 6, Value: math.MaxInt}, {Key: 64, Value: math.MinInt}, {Key: math.MaxInt, Value: 9}}}
}

// filled is a Set with some keys: with a value, without one, with a value of 0 and again with one.
func filled(t *testing.T) *pair {
	t.Helper()
	x := made(t)
	x.puts(t, 7, 5)
	x.drops(t, 2)
	x.puts(t, 63, 0)
	x.puts(t, 40, 9)
	x.drops(t, 40)
	x.drops(t, 0)
	x.puts(t, 0, 65535)
	x.puts(t, 7, 6)
	return x
}

// full is a Set with all keys, each third of them gone.
func full(t *testing.T) *pair {
	t.Helper()
	x := made(t)
	for n := range keys {
		if n%3 == 0 {
			x.drops(t, 63-n)
		} else {
			x.puts(t, 63-n, n)
		}
	}
	return x
}

// Promise 14.1: the example of the chapter.
func TestExample(t *testing.T) {
	s := New()
	if a, b := s.Put(1, 5), s.Drop(1); a != api.OK || b != api.OK {
		t.Error(a, b)
	}
	if v, there, written := s.Get(1); v != 0 || there || !written {
		t.Error(v, there, written)
	}
}

// Promise 14.1: a new Set is empty, whatever other ones have.
func TestNewIsEmpty(t *testing.T) {
	made(t).tells(t)
	x, y := filled(t), made(t)
	y.tells(t)
	y.puts(t, 7, 60)
	y.drops(t, 9)
	x.tells(t)
	y.tells(t)
}

// Promises 14.1 and 14.2: each key alone in its Set, with each write after each other one.
func TestEveryKeyAndValue(t *testing.T) {
	for n := range keys {
		for _, first := range someValues() {
			x := made(t)
			x.puts(t, n, first)
			x.asks(t, n)
			for _, v := range someValues() {
				x.puts(t, n, v)
				x.asks(t, n)
				x.drops(t, n)
				x.asks(t, n)
				x.puts(t, n, v)
				x.puts(t, n, first)
				x.asks(t, n)
				x.holds(t)
			}
			x.drops(t, n)
			x.drops(t, n)
			x.holds(t)
			if v, there, written := x.Get(n); v != 0 || there || !written || x.Len() != 1 {
				t.Errorf("key %d: Get() = %d, %v, %v, Len() = %d", n, v, there, written, x.Len())
			}
			x.puts(t, n, first)
			x.tells(t)
		}
	}
}

// Promises 14.1 and 14.2: every value.
func TestEveryValue(t *testing.T) {
	s := New()
	for v := range values {
		if e := s.Put(9, v); e != api.OK {
			t.Fatal(v, e)
		}
		if got, there, written := s.Get(9); got != v || !there || !written {
			t.Fatal(v, got, there, written)
		}
		if l := s.All(); len(l) != 1 || l[0] != (api.Write{Key: 9, Value: v}) {
			t.Fatal(v, l)
		}
	}
}

// Promise 14.1: a key that is dropped first is written, and has its place from then on.
func TestDropFirst(t *testing.T) {
	for n := range keys {
		x := made(t)
		x.drops(t, n)
		x.tells(t)
		if l := x.All(); len(l) != 1 || l[0] != (api.Write{Key: n, Gone: true}) {
			t.Error(n, l)
		}
		x.puts(t, (n+1)%keys, 4)
		x.puts(t, n, 8)
		x.tells(t)
	}
}

// Promises 14.1 and 14.2: keys are listed in the order in which they were written first, up, down and mixed, also after all of them have been written again in another order.
func TestOrderOfKeys(t *testing.T) {
	for _, factor := range []int{1, 63, 5, 27} {
		x := made(t)
		for n := range keys {
			if n%4 == 1 {
				x.drops(t, n*factor%keys)
			} else {
				x.puts(t, n*factor%keys, 100+n)
			}
			x.holds(t)
		}
		for _, again := range []int{63, 1, 11} {
			for n := range keys {
				if n%5 == again%5 {
					x.drops(t, n*again%keys)
				} else {
					x.puts(t, n*again%keys, n*again)
				}
			}
			x.tells(t)
		}
		for i, w := range x.All() {
			if w.Key != i*factor%keys {
				t.Errorf("times %d: key %d is %d", factor, i, w.Key)
			}
		}
	}
}

// Promise 14.1: what is no key or no value is not recorded, and changes nothing.
func TestPutRefuses(t *testing.T) {
	for _, x := range []*pair{made(t), filled(t), full(t)} {
		refuses := func(n, v int) {
			if e := x.puts(t, n, v); e != api.ErrArg {
				t.Errorf("Put(%d, %d) = %d", n, v, e)
			}
		}
		for _, n := range noKeys() {
			for _, v := range append(someValues(), noValues()...) {
				refuses(n, v)
			}
			x.holds(t)
		}
		for n := range keys {
			for _, v := range noValues() {
				refuses(n, v)
			}
			x.holds(t)
		}
		x.tells(t)
	}
}

// Promise 14.1: what is no key is not dropped either.
func TestDropRefuses(t *testing.T) {
	for _, x := range []*pair{made(t), filled(t), full(t)} {
		for _, n := range noKeys() {
			if e := x.drops(t, n); e != api.ErrArg {
				t.Errorf("Drop(%d) = %d", n, e)
			}
			x.holds(t)
		}
		x.tells(t)
	}
}

// Promise 14.1: every range, also those that are empty or go beyond the keys, over every list.
func TestOverEveryRange(t *testing.T) {
	for _, x := range []*pair{made(t), filled(t), full(t)} {
		for _, l := range someLists() {
			for lo := -3; lo <= 66; lo++ {
				for hi := -3; hi <= 66; hi++ {
					x.lays(t, l, lo, hi)
				}
			}
			for _, lo := range noKeys() {
				for _, hi := range noKeys() {
					x.lays(t, l, lo, hi)
				}
			}
		}
	}
}

// Promise 14.1: four keys, each in the list or not, and not written, with a value or gone, with every range.
func TestOverEveryCase(t *testing.T) {
	const some = 4
	for set := range 3 * 3 * 3 * 3 {
		x := made(t)
		for rest, n := set, some-1; n >= 0; n-- {
			switch rest % 3 {
			case 1:
				x.puts(t, n, 50+n)
			case 2:
				x.drops(t, n)
			}
			rest /= 3
		}
		for list := range 1 << some {
			var l []api.Pair
			for n := range some {
				if list>>n&1 == 1 {
					l = append(l, api.Pair{Key: n, Value: 10 + n})
				}
			}
			for lo := -1; lo <= some; lo++ {
				for hi := -1; hi <= some; hi++ {
					x.lays(t, l, lo, hi)
				}
			}
		}
		if t.Failed() {
			t.Fatalf("set %d", set)
		}
	}
}

// Promise 14.1: writes are laid over a list in the order of the keys, in whatever order they were made.
func TestOverInOrder(t *testing.T) {
	for _, factor := range []int{1, 63, 5, 27} {
		x := made(t)
		for n := range keys {
			x.puts(t, n*factor%keys, n)
			for _, l := range someLists() {
				x.lays(t, l, 0, 63)
			}
		}
		for n, got := range x.Over(nil, 0, 63) {
			if want := (api.Pair{Key: n * factor % keys, Value: n}); x.Over(nil, want.Key, want.Key)[0] != want || got.Key != n {
				t.Errorf("times %d: key %d is %v", factor, n, got)
			}
		}
	}
}

// Promise 14.1: no pairs where the keys of the list are not ascending, wherever that is, whatever the range and the writes.
func TestOverRefuses(t *testing.T) {
	for _, x := range []*pair{made(t), filled(t), full(t)} {
		refuses := func(l []api.Pair) {
			t.Helper()
			for _, r := range []api.Span{{Lo: 0, Hi: 63}, {Lo: 5, Hi: 5}, {Lo: 9, Hi: 1}, {Lo: math.MinInt, Hi: math.MaxInt}} {
				if got := x.lays(t, l, r.Lo, r.Hi); len(got) != 0 {
					t.Errorf("Over(%v, %d, %d) = %v", l, r.Lo, r.Hi, got)
				}
			}
		}
		for _, n := range append(noKeys(), 0, 1, 7, 62, 63) {
			refuses([]api.Pair{{Key: n}, {Key: n, Value: 1}})
			if n < math.MaxInt {
				refuses([]api.Pair{{Key: n + 1}, {Key: n}})
				refuses([]api.Pair{{Key: math.MaxInt}, {Key: n}})
			}
			if n > math.MinInt {
				refuses([]api.Pair{{Key: n}, {Key: math.MinInt}})
			}
		}
		for i := 1; i < keys; i++ {
			l := someLists()[3]
			l[i].Key = l[i-1].Key
			refuses(l)
			l[i].Key = -1
			refuses(l)
			l[i].Key = i
			l[i-1].Key = i + 1
			refuses(l)
		}
		x.tells(t)
	}
}

// Promise 14.1: pairs whose keys are none stay, and a written key has its place between them, however far apart they are.
func TestOverFarKeys(t *testing.T) {
	for n := range keys {
		x := made(t)
		x.puts(t, n, 4)
		for _, a := range noKeys() {
			x.lays(t, []api.Pair{{Key: a, Value: 1}}, 0, 63)
			for _, b := range noKeys() {
				x.lays(t, []api.Pair{{Key: a, Value: 1}, {Key: b, Value: 2}}, a, b)
				x.lays(t, []api.Pair{{Key: a, Value: 1}, {Key: n, Value: 3}, {Key: b, Value: 2}}, n, n)
			}
		}
	}
}

// Promise 14.1: a long list stays as it is but for the written keys.
func TestOverLong(t *testing.T) {
	long := make([]api.Pair, 200000)
	for i := range long {
		long[i] = api.Pair{Key: i - 100000, Value: i}
	}
	for _, x := range []*pair{made(t), filled(t), full(t)} {
		x.lays(t, long, 0, 63)
		x.lays(t, long[:100030], 3, 50)
		x.lays(t, long[100030:], 3, 50)
		x.lays(t, append(slices.Clone(long), api.Pair{Key: 99999}), 0, 63)
	}
}

// Promise 14.1: Over changes nothing of the Set.
func TestOverLooksOnly(t *testing.T) {
	for _, x := range []*pair{made(t), filled(t), full(t)} {
		for _, l := range someLists() {
			first := x.lays(t, l, 0, 63)
			second := x.lays(t, first, 0, 63)
			if !slices.Equal(first, second) {
				t.Errorf("once %v, twice %v", first, second)
			}
			x.holds(t)
		}
		x.tells(t)
	}
}

// spoil writes over a list and over the room behind it.
func spoil[T any](l []T, with T) {
	l = l[:cap(l)]
	for i := range l {
		l[i] = with
	}
}

// Promise 14.1: a Set keeps nothing of a list that was handed in, and changes neither it nor the room behind it.
func TestArgumentsApart(t *testing.T) {
	for _, x := range []*pair{made(t), filled(t), full(t)} {
		for n := range 9 {
			room := []api.Pair{{Key: -2, Value: 1}, {Key: 2, Value: 2}, {Key: 3, Value: 3}, {Key: 7, Value: 4}, {Key: 8, Value: 5}, {Key: 8, Value: 6}, {Key: 0, Value: 7}, {Key: 63, Value: 8}, {Key: 99, Value: 9}}
			before := slices.Clone(room)
			got := x.lays(t, room[:n], 0, 63)
			want := slices.Clone(got)
			x.lays(t, room[:n], 5, 4)
			if !slices.Equal(room, before) {
				t.Error(room)
			}
			spoil(room, api.Pair{Key: 77})
			if !slices.Equal(got, want) {
				t.Error("a list and its answer share memory:", got)
			}
			x.tells(t)
		}
	}
}

// Promise 14.1: what a Set tells is the caller's own: neither the Set, nor another answer, nor a list that was handed in has it.
func TestResultsApart(t *testing.T) {
	for _, x := range []*pair{made(t), filled(t), full(t)} {
		list := someLists()[4]
		for _, r := range []api.Span{{Lo: 0, Hi: 63}, {Lo: 9, Hi: 1}} {
			all, over := x.All(), x.lays(t, list, r.Lo, r.Hi)
			for range 2 {
				spoil(x.All(), api.Write{Key: 77, Value: 7})
				spoil(x.lays(t, list, r.Lo, r.Hi), api.Pair{Key: 77})
				x.tells(t)
			}
			if !slices.Equal(all, x.p.all()) || !slices.Equal(over, x.p.over(list, r.Lo, r.Hi)) || !slices.Equal(list, someLists()[4]) {
				t.Error("answers share memory:", all, over, list)
			}
			x.puts(t, 31, 1)
			x.puts(t, 31, 2)
			spoil(all, api.Write{Key: 77})
			spoil(over, api.Pair{Key: 77})
			x.tells(t)
		}
	}
}

// Section Ways: a key is listed once, by its Once, which is done with the first write of the key and by nothing else.
func TestListedByTheOnce(t *testing.T) {
	for _, first := range []func(x *pair){
		func(x *pair) { x.puts(t, 5, 7) },
		func(x *pair) { x.drops(t, 5) },
	} {
		x := made(t)
		first(x)
		x.puts(t, 64, 7)
		x.puts(t, -1, 7)
		x.puts(t, 6, 65536)
		x.drops(t, 64)
		x.tells(t)
		for n := range keys {
			open := false
			x.once[n].Do(func() { open = true })
			if open == (n == 5) {
				t.Errorf("key %d: open is %v", n, open)
			}
		}
		for range 3 {
			x.puts(t, 5, 9)
			x.drops(t, 5)
			x.tells(t)
		}
	}
}

// Promises 14.1 and 14.2: every sequence of six calls that write two keys.
func TestEverySequence(t *testing.T) {
	const calls = 6
	all := []func(x *pair){
		func(x *pair) { x.puts(t, 0, 0) },
		func(x *pair) { x.puts(t, 0, 4) },
		func(x *pair) { x.drops(t, 0) },
		func(x *pair) { x.puts(t, 63, 4) },
		func(x *pair) { x.puts(t, 63, 65535) },
		func(x *pair) { x.drops(t, 63) },
		func(x *pair) { x.puts(t, 63, 65536) },
	}
	choices := 1
	for range calls {
		choices *= len(all)
	}
	for number := range choices {
		x := made(t)
		for rest, n := number, 0; n < calls; n++ {
			all[rest%len(all)](x)
			rest /= len(all)
		}
		x.holds(t)
		for _, n := range []int{-1, 0, 1, 62, 63, 64} {
			x.asks(t, n)
		}
		x.lays(t, []api.Pair{{Key: 0, Value: 9}, {Key: 1, Value: 9}}, 0, 63)
		if t.Failed() {
			t.Fatalf("sequence %d", number)
		}
	}
}

// draws is a row of numbers that look drawn.
type draws uint64

func (d *draws) draw(m int) int {
	*d = *d*6364136223846793005 + 1442695040888963407
	return int(*d >> 33 % draws(m))
}

// number is mostly a key, and sometimes none.
func (d *draws) number() int {
	if d.draw(20) == 0 {
		return noKeys()[d.draw(len(noKeys()))]
	}
	return d.draw(keys)
}

// value is mostly one, and sometimes none.
func (d *draws) value() int {
	if d.draw(20) == 0 {
		return noValues()[d.draw(len(noValues()))]
	}
	return d.draw(values)
}

// list is of some keys, mostly ascending.
func (d *draws) list() []api.Pair {
	var l []api.Pair
	for n := d.draw(9) - 4; n < 68; n += 1 + d.draw(9) {
		l = append(l, api.Pair{Key: n, Value: d.draw(values)})
	}
	if d.draw(5) == 0 {
		i := d.draw(len(l))
		l[i].Key = d.number()
	}
	return l
}

// Promises 14.1 to 14.3: long runs of calls on two Sets, with numbers of every kind.
func TestRuns(t *testing.T) {
	d := draws(1)
	for round := range 300 {
		l := []*pair{made(t), made(t)}
		for range d.draw(300) {
			x := l[d.draw(2)]
			if d.draw(3) == 0 {
				x.drops(t, d.number())
			} else {
				x.puts(t, d.number(), d.value())
			}
			x.asks(t, d.number())
			x.lays(t, d.list(), d.number(), d.number())
		}
		for _, x := range l {
			x.tells(t)
		}
		if t.Failed() {
			t.Fatalf("round %d", round)
		}
	}
}

// Promise 14.3: no call panics, and each one ends, whatever the numbers and whatever was recorded before.
func TestHostileNumbers(t *testing.T) {
	for _, x := range []*pair{made(t), filled(t), full(t)} {
		for _, n := range append(noKeys(), 0, 31, 63) {
			for _, m := range append(noKeys(), 0, 31, 63) {
				x.puts(t, n, m)
				x.drops(t, n)
				x.asks(t, m)
				for _, l := range [][]api.Pair{nil, {}, {{Key: n}}, {{Key: n}, {Key: m}}, {{Key: m, Value: n}, {Key: n, Value: m}}, someLists()[5]} {
					x.lays(t, l, n, m)
					x.lays(t, l, m, n)
				}
			}
			x.holds(t)
		}
		x.tells(t)
	}
}

// world is the value that each key has at a moment, or -1.
type world [keys]int

// pairs is the pairs of a range.
func (w *world) pairs(lo, hi int) []api.Pair {
	var l []api.Pair
	for n := lo; n <= hi; n++ {
		if w[n] >= 0 {
			l = append(l, api.Pair{Key: n, Value: w[n]})
		}
	}
	return l
}

// drawn is a world with some values.
func (d *draws) drawn() *world {
	var w world
	for n := range w {
		w[n] = d.draw(20) - 10
		w[n] = max(w[n], -1)
	}
	return &w
}

// changes makes a write in a Set and at once in a world.
func (d *draws) changes(s *Set, w *world) {
	n, v := d.draw(keys), d.draw(values)
	if d.draw(2) == 0 {
		s.Drop(n)
		w[n] = -1
		return
	}
	s.Put(n, v)
	w[n] = v
}

// makes makes what a Set lists in a world.
func makes(s *Set, w *world) {
	for _, x := range s.All() {
		w[x.Key] = x.Value
		if x.Gone {
			w[x.Key] = -1
		}
	}
}

// reads tells what a transaction reads of a key: its own write, or else what was there when it began.
func reads(s *Set, w *world, n int) int {
	v, there, written := s.Get(n)
	switch {
	case there:
		return v
	case written:
		return -1
	}
	return w[n]
}

// Promise 14.2: a transaction whose writes are in a Set alone reads, scans and leaves behind what it would if each write were made at once.
func TestWritesAreEnough(t *testing.T) {
	d := draws(5)
	for round := range 2000 {
		was := d.drawn()
		now := *was
		s := New()
		for range d.draw(60) {
			d.changes(s, &now)
			if n := d.draw(keys); reads(s, was, n) != now[n] {
				t.Errorf("key %d: read %d, want %d", n, reads(s, was, n), now[n])
			}
			lo := d.draw(keys)
			hi := lo + d.draw(keys-lo)
			if got := s.Over(was.pairs(lo, hi), lo, hi); !slices.Equal(got, now.pairs(lo, hi)) {
				t.Errorf("from %d to %d: %v, want %v", lo, hi, got, now.pairs(lo, hi))
			}
		}
		after := *was
		makes(s, &after)
		if after != now {
			t.Errorf("left %v, want %v", after, now)
		}
		if t.Failed() {
			t.Fatalf("round %d", round)
		}
	}
}
