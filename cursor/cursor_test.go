package cursor

import (
	"math"
	"slices"
	"sync"
	"testing"

	"vinculum/api"
	"vinculum/tower"
)

// keys is how many keys there are, and high the greatest height in a Tower, by the numbers of chapter 11.
const (
	keys = 64
	high = 4
)

// field is a Tower beside a plain set of the keys that it has.
type field struct {
	*tower.Tower
	in [keys]bool
}

// sown is a field with some keys, of mixed heights.
func sown(t *testing.T, l ...int) *field {
	t.Helper()
	f := &field{Tower: tower.New()}
	for _, key := range l {
		f.puts(t, key)
	}
	return f
}

// puts adds a key, if it is not there.
func (f *field) puts(t *testing.T, key int) {
	t.Helper()
	if ok, e := f.Put(key, 1+key*key/3%high); ok == f.in[key] || e != api.OK {
		t.Fatalf("Put(%d) = %v, %d", key, ok, e)
	}
	f.in[key] = true
}

// drops removes a key, if it is there.
func (f *field) drops(t *testing.T, key int) {
	t.Helper()
	if f.Drop(key) != f.in[key] {
		t.Fatalf("Drop(%d) = %v", key, !f.in[key])
	}
	f.in[key] = false
}

// turns puts a key that is not there and drops one that is.
func (f *field) turns(t *testing.T, key int) {
	t.Helper()
	if f.in[key] {
		f.drops(t, key)
	} else {
		f.puts(t, key)
	}
}

// list is the keys from lo to hi.
func (f *field) list(lo, hi int) []int {
	var l []int
	for key, there := range f.in {
		if there && key >= lo && key <= hi {
			l = append(l, key)
		}
	}
	return l
}

// plain is what the document says of a Cursor.
type plain struct {
	lo, hi, at int
	done       bool
}

// next tells what Next is to return, by the sentences of the chapter.
func (p *plain) next(f *field) (int, bool) {
	for key, there := range f.in {
		ahead := key > p.at
		if p.at == -1 {
			ahead = key >= p.lo
		}
		if there && ahead && key <= p.hi && !p.done {
			p.at = key
			return key, true
		}
	}
	p.done = true
	return 0, false
}

// pair is a Cursor beside the plain one.
type pair struct {
	*Cursor
	p plain
	f *field
}

// made is a Cursor in a field, ahead of its first key.
func made(t *testing.T, f *field, lo, hi int) *pair {
	t.Helper()
	c, e := New(f.Tower, lo, hi)
	if c == nil || e != api.OK {
		t.Fatalf("New(%d, %d) = %v, %d", lo, hi, c != nil, e)
	}
	x := &pair{Cursor: c, p: plain{lo: lo, hi: hi, at: -1}, f: f}
	x.holds(t)
	return x
}

// holds holds what a Cursor tells without going on, which it tells each time.
func (x *pair) holds(t *testing.T) {
	t.Helper()
	for range 2 {
		if x.At() != x.p.at || x.Done() != x.p.done || x.Span() != (api.Span{Lo: x.p.lo, Hi: x.p.hi}) {
			t.Errorf("%v: At() = %d, Done() = %v, Span() = %v; want %+v", x.f.list(0, keys), x.At(), x.Done(), x.Span(), x.p)
		}
	}
}

// goes holds what the next key is, and what the Cursor tells then.
func (x *pair) goes(t *testing.T) bool {
	t.Helper()
	was := x.p
	got, ok := x.Next()
	if want, there := x.p.next(x.f); got != want || ok != there {
		t.Errorf("%v, %+v: Next() = %d, %v; want %d, %v", x.f.list(0, keys), was, got, ok, want, there)
	}
	x.holds(t)
	return ok
}

// ends goes through all keys that are left and through some calls after the end, and tells those keys.
func (x *pair) ends(t *testing.T) []int {
	t.Helper()
	var l []int
	for range keys {
		if !x.goes(t) {
			break
		}
		l = append(l, x.At())
	}
	for range 3 {
		if x.goes(t) {
			t.Errorf("%+v: a key after the end: %d", x.p, x.At())
		}
	}
	return l
}

// The numbers that are no key: those next to the bounds, those that wrap round to a key in fewer bits, and the ends of the kind int.
func noKeys() []int {
	return []int{math.MinInt, math.MinInt + 1, math.MinInt + 5, math.MinInt32, -1 << 32, -1<<32 + 5, -65536, -64, -63, -2, -1, 64, 65, 66, 127, 128, 256, 260, 65536, math.MaxInt32, 1 << 32, 1<<32 + 5, math.MaxInt - 1, math.MaxInt}
}

// fields are some with no, few, every other and all keys.
func fields(t *testing.T) []*field {
	t.Helper()
	even, odd, all := sown(t), sown(t), sown(t)
	for key := range keys {
		all.puts(t, key)
		if key%2 == 0 {
			even.puts(t, key)
		} else {
			odd.puts(t, key)
		}
	}
	return []*field{sown(t), sown(t, 0), sown(t, 63), sown(t, 9, 4, 63, 0, 1), sown(t, 30, 31, 33), even, odd, all}
}

// Promise 12.1: the example of the chapter.
func TestExample(t *testing.T) {
	w := tower.New()
	for _, key := range []int{1, 4, 9} {
		w.Put(key, 1)
	}
	c, e := New(w, 1, 5)
	if e != api.OK {
		t.Fatal(e)
	}
	for i, want := range []int{1, 4, 0} {
		if key, ok := c.Next(); key != want || ok != (want > 0) {
			t.Error(i, key, ok)
		}
	}
}

// Promise 12.1: every range of keys, in Towers with none, few and all of them; a Cursor ends with the Next that finds none, not with the last key.
func TestEveryRange(t *testing.T) {
	for _, f := range fields(t) {
		was := f.Level(1)
		for lo := range keys {
			for hi := lo; hi < keys; hi++ {
				if l, want := made(t, f, lo, hi).ends(t), f.list(lo, hi); !slices.Equal(l, want) {
					t.Errorf("%v: keys from %d to %d: %v, want %v", was, lo, hi, l, want)
				}
			}
		}
		if l := f.Level(1); !slices.Equal(l, was) {
			t.Errorf("Cursors change a Tower from %v to %v", was, l)
		}
	}
}

// refuses holds that there is no Cursor.
func refuses(t *testing.T, w *tower.Tower, lo, hi int) {
	t.Helper()
	if c, e := New(w, lo, hi); c != nil || e != api.ErrArg {
		t.Errorf("New(%v, %d, %d) = %v, %d", w != nil, lo, hi, c != nil, e)
	}
}

// Promise 12.1: no Cursor without a Tower, from or to what is no key, or where lo is above hi.
func TestNewRefuses(t *testing.T) {
	few := sown(t, 0, 5, 63)
	for _, w := range []*tower.Tower{few.Tower, tower.New(), nil} {
		for _, n := range noKeys() {
			for key := range keys {
				refuses(t, w, n, key)
				refuses(t, w, key, n)
			}
			for _, m := range noKeys() {
				refuses(t, w, n, m)
			}
		}
		for hi := range keys {
			for lo := hi + 1; lo < keys; lo++ {
				refuses(t, w, lo, hi)
			}
		}
	}
	for lo := range keys {
		for hi := range keys {
			refuses(t, nil, lo, hi)
		}
	}
	if l := few.Level(1); !slices.Equal(l, []int{0, 5, 63}) {
		t.Error(l)
	}
}

// Promise 12.1: Next looks at what is in the Tower now: it finds keys that were put ahead of it after New, and none that were dropped meanwhile.
func TestNextLooksNow(t *testing.T) {
	f := sown(t)
	x := made(t, f, 3, 40)
	for _, key := range []int{2, 3, 7, 20, 41} {
		f.puts(t, key)
	}
	x.goes(t) // 3
	f.drops(t, 7)
	f.puts(t, 4)
	x.goes(t) // 4
	f.drops(t, 4)
	f.puts(t, 40)
	if l := x.ends(t); !slices.Equal(l, []int{20, 40}) {
		t.Error(l)
	}
}

// Promise 12.2: no key is returned again, nor one that is put behind the Cursor: neither the last one, dropped and put again, nor those below it.
func TestNextGoesUp(t *testing.T) {
	f := sown(t, 5, 9, 12)
	x := made(t, f, 5, 12)
	x.goes(t) // 5
	x.goes(t) // 9
	f.drops(t, 9)
	f.drops(t, 5)
	for key := range 10 {
		f.puts(t, key)
	}
	if l := x.ends(t); !slices.Equal(l, []int{12}) {
		t.Error(l)
	}
}

// Promise 12.1: the bounds are in the range: a Cursor returns its lo and its hi, if they are put in the last moment, and nothing beside them.
func TestBounds(t *testing.T) {
	for lo := range keys {
		for hi := lo; hi < keys; hi++ {
			f := sown(t)
			if lo > 0 {
				f.puts(t, lo-1)
			}
			if hi < keys-1 {
				f.puts(t, hi+1)
			}
			x := made(t, f, lo, hi)
			f.puts(t, lo)
			if !x.goes(t) || x.At() != lo {
				t.Errorf("from %d to %d: At() = %d", lo, hi, x.At())
			}
			if hi > lo {
				f.puts(t, hi)
				if !x.goes(t) || x.At() != hi {
					t.Errorf("from %d to %d: At() = %d", lo, hi, x.At())
				}
			}
			x.ends(t)
		}
	}
}

// Promise 12.1: once a Cursor is done it stays so, whatever is put into the Tower or dropped from it; At goes on telling the key that was returned last.
func TestDoneForGood(t *testing.T) {
	for _, f := range fields(t) {
		for _, span := range []api.Span{{Lo: 0, Hi: 0}, {Lo: 0, Hi: 63}, {Lo: 31, Hi: 40}, {Lo: 62, Hi: 62}} {
			x := made(t, f, span.Lo, span.Hi)
			x.ends(t)
			for range 2 {
				for key := range keys {
					f.turns(t, key)
					x.goes(t)
				}
			}
		}
	}
}

// Promise 12.1: a Cursor that has not been asked for a key is not done, even if there is none, and finds one that is put before it is asked.
func TestNotDoneUnasked(t *testing.T) {
	f := sown(t, 63)
	x := made(t, f, 0, 62)
	x.holds(t)
	f.puts(t, 62)
	x.holds(t)
	if l := x.ends(t); !slices.Equal(l, []int{62}) {
		t.Error(l)
	}
	y := made(t, f, 63, 63)
	f.drops(t, 63)
	y.holds(t)
	y.goes(t)
	if !y.Done() || y.At() != -1 {
		t.Error(y.Done(), y.At())
	}
}

// Promises 12.1 and 12.2: Cursors on one Tower go each for themselves, with the same range or others, and those on another Tower do not meet them.
func TestCursorsApart(t *testing.T) {
	f, g := sown(t, 1, 4, 9, 30), sown(t, 4, 5)
	l := []*pair{made(t, f, 0, 63), made(t, f, 0, 63), made(t, f, 4, 9), made(t, g, 4, 9), made(t, f, 9, 9), made(t, g, 0, 4)}
	for round := range 8 {
		for i, x := range l {
			if i <= round {
				x.goes(t)
			}
			for _, y := range l {
				y.holds(t)
			}
		}
		f.turns(t, 6+round)
		g.turns(t, round)
	}
	for _, x := range l {
		x.ends(t)
	}
}

// Section Ways: a Cursor ends by its Once, with the first Next that finds no key and with none before it.
func TestEndsByTheOnce(t *testing.T) {
	for nexts := range 6 {
		x := made(t, sown(t, 2, 3, 5), 3, 6)
		for range nexts {
			x.goes(t)
		}
		open := false
		x.ended.Do(func() { open = true })
		if want := nexts < 3; open != want || x.Done() == want {
			t.Errorf("%d calls of Next: open is %v, Done() = %v", nexts, open, x.Done())
		}
	}
}

// Promises 12.1 and 12.2: every sequence of six calls that go on, put or drop one of three keys, in each range of them.
func TestEverySequence(t *testing.T) {
	const calls = 6
	three := []int{0, 31, 63}
	choices := 1
	for range calls {
		choices *= len(three) + 1
	}
	for i, lo := range three {
		for _, hi := range three[i:] {
			for number := range choices {
				f := sown(t)
				x := made(t, f, lo, hi)
				for rest, n := number, 0; n < calls; n++ {
					if key := rest % (len(three) + 1); key < len(three) {
						f.turns(t, three[key])
					} else {
						x.goes(t)
					}
					rest /= len(three) + 1
				}
				x.goes(t)
				if t.Failed() {
					t.Fatalf("from %d to %d: sequence %d", lo, hi, number)
				}
			}
		}
	}
}

// draws is a row of numbers that look drawn.
type draws uint64

func (d *draws) draw(m int) int {
	*d = *d*6364136223846793005 + 1442695040888963407
	return int(*d >> 33 % draws(m))
}

// Promises 12.1 and 12.2: long runs of several Cursors on one Tower, while keys come and go.
func TestRuns(t *testing.T) {
	d := draws(1)
	for round := range 2000 {
		f := sown(t)
		for range d.draw(keys) {
			f.turns(t, d.draw(keys))
		}
		l := make([]*pair, 1+d.draw(4))
		for i := range l {
			lo := d.draw(keys)
			l[i] = made(t, f, lo, lo+d.draw(keys-lo))
		}
		changes := d.draw(4)
		for range 60 {
			l[d.draw(len(l))].goes(t)
			for range d.draw(changes + 1) {
				f.turns(t, d.draw(keys))
			}
		}
		for _, x := range l {
			x.ends(t)
		}
		if t.Failed() {
			t.Fatalf("round %d", round)
		}
	}
}

// sessions is how many call at a time in the test below.
const sessions = 8

// stays and never tell the keys that are in the Tower all the time and those that never are; the others come and go.
func stays(key int) bool { return key%8 == 7 }
func never(key int) bool { return key%8 == 6 }

// passes goes through a range with a Cursor of its own, and holds what it returns: it is ascending, has all keys of the range that stay and none that never are.
func passes(w *tower.Tower, lo, hi int) bool {
	c, e := New(w, lo, hi)
	if e != api.OK {
		return false
	}
	last := lo - 1
	for key, ok := c.Next(); ok; key, ok = c.Next() {
		if key <= last || key > hi || never(key) || skips(last, key) || c.At() != key || c.Done() {
			return false
		}
		last = key
	}
	return !skips(last, hi+1) && c.Done()
}

// skips reports whether a key that stays is between two others.
func skips(a, b int) bool {
	for key := a + 1; key < b; key++ {
		if stays(key) {
			return true
		}
	}
	return false
}

// writes puts and drops keys that come and go.
func writes(w *tower.Tower) bool {
	d := draws(7)
	for range 8 * keys {
		key := d.draw(keys)
		if stays(key) || never(key) {
			continue
		}
		ok := false
		if w.Has(key) {
			ok = w.Drop(key)
		} else {
			ok, _ = w.Put(key, 1+d.draw(high))
		}
		if !ok {
			return false
		}
	}
	return true
}

// Promises 12.2 and 12.3: while one session puts and drops keys, the Cursors of others go up, find each key that stays there once, and come to an end.
func TestCursorsBesideAWriter(t *testing.T) {
	for round := range 300 {
		w := tower.New()
		for key := range keys {
			if stays(key) {
				w.Put(key, 1+(key+round)/8%high)
			}
		}
		var all sync.WaitGroup
		var bad [sessions]bool
		for k := range sessions {
			all.Go(func() {
				if k == 0 {
					bad[k] = !writes(w)
					return
				}
				for n := range 30 {
					lo := (9*k + 5*n) % keys
					bad[k] = bad[k] || !passes(w, lo, lo+(13*n)%(keys-lo))
				}
			})
		}
		all.Wait()
		if bad != [sessions]bool{} {
			t.Fatalf("round %d: %v", round, bad)
		}
	}
}
