package tower

import (
	"math"
	"slices"
	"testing"

	"vinculum/api"
)

// keys is how many keys there are, and high the greatest height, by the numbers of chapter 11.
const (
	keys = 64
	high = 4
)

// plain is what the document says of a Tower, told by the height of each key; 0 is that of one that is not there.
type plain [keys]int

// level is the keys whose height is at least h.
func (p *plain) level(h int) []int {
	var l []int
	for key, own := range p {
		if own > 0 && own >= h {
			l = append(l, key)
		}
	}
	return l
}

// between is the keys from lo to hi.
func (p *plain) between(lo, hi int) []int {
	var l []int
	for _, key := range p.level(1) {
		if lo <= key && key <= hi {
			l = append(l, key)
		}
	}
	return l
}

func (p *plain) from(key int) (int, bool) {
	if l := p.between(key, keys); len(l) > 0 {
		return l[0], true
	}
	return 0, false
}

// steps counts the keys that a search passes, by the sentences of the chapter.
func (p *plain) steps(key int) int {
	sum, greatest := 0, -1
	for h := high; h >= 1; h-- {
		for _, k := range p.level(h) {
			if k < key && k > greatest {
				sum++
				greatest = k
			}
		}
	}
	return sum
}

func (p *plain) height(key int) int {
	if key < 0 || key >= keys {
		return 0
	}
	return p[key]
}

// pair is a Tower beside the plain one.
type pair struct {
	*Tower
	p plain
}

func made() *pair {
	return &pair{Tower: New()}
}

// puts adds a key that is not there.
func (x *pair) puts(t *testing.T, key, height int) {
	t.Helper()
	if ok, e := x.Put(key, height); !ok || e != api.OK {
		t.Fatalf("Put(%d, %d) = %v, %d", key, height, ok, e)
	}
	x.p[key] = height
}

// drops removes a key that is there.
func (x *pair) drops(t *testing.T, key int) {
	t.Helper()
	if !x.Drop(key) {
		t.Fatalf("Drop(%d) = false", key)
	}
	x.p[key] = 0
}

// rejects holds that a Put adds nothing, and what it tells.
func (x *pair) rejects(t *testing.T, key, height int, want api.Errno) {
	t.Helper()
	was := x.words.Words()
	if ok, e := x.Put(key, height); ok || e != want {
		t.Errorf("Put(%d, %d) = %v, %d; want false, %d", key, height, ok, e, want)
	}
	if !slices.Equal(x.words.Words(), was) {
		t.Errorf("Put(%d, %d) changes words", key, height)
	}
}

// key holds all that a Tower tells of one number.
func (x *pair) key(t *testing.T, key int) {
	t.Helper()
	if got, want := x.Height(key), x.p.height(key); got != want || x.Has(key) != (want > 0) {
		t.Errorf("%v: Height(%d) = %d, Has is %v; want %d", x.p, key, got, x.Has(key), want)
	}
	got, ok := x.From(key)
	if want, there := x.p.from(key); got != want || ok != there {
		t.Errorf("%v: From(%d) = %d, %v; want %d, %v", x.p, key, got, ok, want, there)
	}
	if got, want := x.Steps(key), x.p.steps(key); got != want {
		t.Errorf("%v: Steps(%d) = %d, want %d", x.p, key, got, want)
	}
}

// between holds what a Tower tells of a range.
func (x *pair) between(t *testing.T, lo, hi int) {
	t.Helper()
	if got, want := x.Range(lo, hi), x.p.between(lo, hi); !slices.Equal(got, want) {
		t.Errorf("%v: Range(%d, %d) = %v, want %v", x.p, lo, hi, got, want)
	}
}

// lists holds the levels, each against the plain one and against the level below it (promise 11.2).
func (x *pair) lists(t *testing.T) {
	t.Helper()
	for h := 1; h <= high; h++ {
		l := x.Level(h)
		if want := x.p.level(h); !slices.Equal(l, want) {
			t.Errorf("%v: Level(%d) = %v, want %v", x.p, h, l, want)
		}
		if h > 1 && !within(l, x.Level(h-1)) {
			t.Errorf("%v: Level(%d) = %v is no subsequence of Level(%d) = %v", x.p, h, l, h-1, x.Level(h-1))
		}
	}
	for _, h := range []int{math.MinInt, -1 << 32, -1, 0, high + 1, high + 2, 64, 1<<32 + 1, math.MaxInt} {
		if l := x.Level(h); len(l) > 0 {
			t.Errorf("%v: Level(%d) = %v", x.p, h, l)
		}
	}
	if got, want := x.Len(), len(x.p.level(1)); got != want {
		t.Errorf("%v: Len() = %d, want %d", x.p, got, want)
	}
}

// within reports whether a list is a subsequence of another one.
func within(l, m []int) bool {
	for _, n := range m {
		if len(l) > 0 && l[0] == n {
			l = l[1:]
		}
	}
	return len(l) == 0
}

// holds holds all that a Tower tells, of every key and of numbers that are none.
func (x *pair) holds(t *testing.T) {
	t.Helper()
	x.lists(t)
	for key := range keys {
		x.key(t, key)
	}
	for _, n := range noKeys() {
		x.key(t, n)
		x.between(t, n, keys)
		x.between(t, -1, n)
		x.between(t, 5, n)
		x.between(t, n, 40)
		x.between(t, n, n)
	}
	for _, lo := range x.p.level(1) {
		x.between(t, lo, lo)
		x.between(t, lo-1, lo+1)
		x.between(t, lo+1, keys)
		x.between(t, 0, lo-1)
	}
}

// The numbers that are no key: those next to the bounds, those that wrap round to a key in fewer bits, and the ends of the kind int.
func noKeys() []int {
	return []int{math.MinInt, math.MinInt + 1, math.MinInt + 5, math.MinInt32, -1 << 32, -1<<32 + 5, -65536, -64, -63, -2, -1, 64, 65, 66, 128, 256, 260, 65536, math.MaxInt32, 1 << 32, 1<<32 + 5, math.MaxInt - 1, math.MaxInt}
}

func noHeights() []int {
	return []int{math.MinInt, math.MinInt + 1, -1 << 32, -1<<32 + 1, -4, -1, 0, 5, 6, 8, 63, 256, 257, 65537, 1 << 32, 1<<32 + 1, math.MaxInt - 1, math.MaxInt}
}

// orders are orders of keys: up, down, from both ends, from the middle, and a few keys only.
func orders() [][]int {
	var up, ends, spread []int
	for key := range keys {
		up = append(up, key)
		spread = append(spread, key*37%keys)
		if key%2 == 0 {
			ends = append(ends, key/2)
		} else {
			ends = append(ends, keys-1-key/2)
		}
	}
	down, middle := slices.Clone(up), slices.Clone(ends)
	slices.Reverse(down)
	slices.Reverse(middle)
	return [][]int{up, down, ends, middle, spread, {5}, {63, 0}, {7, 3, 40}}
}

// heights are ways to give a key its height: all of one height, and mixed ones.
func heights() []func(key int) int {
	l := []func(key int) int{
		func(key int) int { return 1 + key%high },
		func(key int) int { return high - key%high },
		func(key int) int { return 1 + key*key/3%high },
		func(key int) int { return 1 + key/16 },
		func(key int) int { return high - key/16 },
	}
	for h := 1; h <= high; h++ {
		l = append(l, func(int) int { return h })
	}
	return l
}

// filled is a Tower with all keys, of mixed heights.
func filled(t *testing.T) *pair {
	t.Helper()
	x := made()
	for key := range keys {
		x.puts(t, key, 1+key*key/3%high)
	}
	return x
}

// Promise 11.1: the example of the chapter.
func TestExample(t *testing.T) {
	x := New()
	for _, c := range [][2]int{{5, 2}, {3, 1}} {
		if ok, e := x.Put(c[0], c[1]); !ok || e != api.OK {
			t.Error(c, ok, e)
		}
	}
	if l := x.Range(0, 9); !slices.Equal(l, []int{3, 5}) {
		t.Error(l)
	}
}

// Promise 11.1: a new Tower has no keys.
func TestNew(t *testing.T) {
	x := made()
	x.holds(t)
	for key := range keys {
		if x.Drop(key) {
			t.Errorf("Drop(%d) = true", key)
		}
	}
	x.holds(t)
}

// Promise 11.1: every key with every height, alone in its Tower.
func TestEveryKeyAndHeight(t *testing.T) {
	for key := range keys {
		for h := 1; h <= high; h++ {
			x := made()
			x.puts(t, key, h)
			x.holds(t)
			x.drops(t, key)
			x.holds(t)
		}
	}
}

// Promises 11.1 and 11.2: keys put in whatever order, with whatever heights.
func TestPut(t *testing.T) {
	for _, height := range heights() {
		for _, order := range orders() {
			x := made()
			for _, key := range order {
				x.puts(t, key, height(key))
				x.lists(t)
			}
			x.holds(t)
		}
	}
}

// Promise 11.1: Put of a key that is there adds nothing and leaves its height, whatever height it is given.
func TestPutAgain(t *testing.T) {
	for _, height := range heights() {
		x := made()
		for key := 0; key < keys; key += 3 {
			x.puts(t, key, height(key))
		}
		for key := 0; key < keys; key += 3 {
			for h := 1; h <= high; h++ {
				x.rejects(t, key, h, api.OK)
			}
		}
		x.holds(t)
	}
}

// Promise 11.1: Put of what is no key, or with what is no height, is an error and adds nothing, to a Tower that has the key as well.
func TestPutRefuses(t *testing.T) {
	few := made()
	few.puts(t, 0, 4)
	few.puts(t, 63, 1)
	for _, x := range []*pair{made(), few, filled(t)} {
		for _, key := range noKeys() {
			for _, h := range append(noHeights(), 1, 2, 3, 4) {
				x.rejects(t, key, h, api.ErrArg)
			}
		}
		for key := range keys {
			for _, h := range noHeights() {
				x.rejects(t, key, h, api.ErrArg)
			}
		}
		x.holds(t)
	}
}

// Promises 11.1 and 11.2: keys dropped in whatever order, and put again with other heights.
func TestDrop(t *testing.T) {
	for _, height := range heights() {
		for _, order := range orders() {
			x := filled(t)
			for _, key := range order {
				x.drops(t, key)
				x.lists(t)
				if x.Drop(key) {
					t.Errorf("Drop(%d) = true again", key)
				}
				x.lists(t)
			}
			x.holds(t)
			for _, key := range order {
				x.puts(t, key, height(key))
				x.lists(t)
			}
			x.holds(t)
		}
	}
}

// Promise 11.1: Drop of what is not there removes nothing: of a key that was never put, of one that was dropped, and of what is no key.
func TestDropRefuses(t *testing.T) {
	x := made()
	for key := 0; key < keys; key += 2 {
		x.puts(t, key, 1+key/2%high)
	}
	for key := 0; key < keys; key += 8 {
		x.drops(t, key)
	}
	was := x.words.Words()
	for _, key := range append(noKeys(), 0, 1, 3, 8, 16, 56, 61, 63) {
		if x.Drop(key) {
			t.Errorf("Drop(%d) = true", key)
		}
	}
	if !slices.Equal(x.words.Words(), was) {
		t.Error("a Drop that removes nothing changes words")
	}
	x.holds(t)
}

// Promise 11.1: the steps of some searches, worked out by hand.
func TestSteps(t *testing.T) {
	for i, c := range []struct {
		put  [][2]int
		want map[int]int
	}{
		{nil, map[int]int{math.MinInt: 0, -1: 0, 0: 0, 63: 0, 64: 0, math.MaxInt: 0}},
		{[][2]int{{0, 1}}, map[int]int{math.MinInt: 0, -1: 0, 0: 0, 1: 1, 63: 1, 64: 1, math.MaxInt: 1}},
		{[][2]int{{63, 4}}, map[int]int{-1: 0, 0: 0, 63: 0, 64: 1, math.MaxInt: 1}},
		// All at the bottom: each of them is passed.
		{[][2]int{{1, 1}, {2, 1}, {3, 1}, {9, 1}}, map[int]int{0: 0, 1: 0, 2: 1, 3: 2, 4: 3, 9: 3, 10: 4}},
		// All at the top: each of them is passed, too, once and not at every level.
		{[][2]int{{1, 4}, {2, 4}, {3, 4}, {9, 4}}, map[int]int{0: 0, 1: 0, 2: 1, 3: 2, 4: 3, 9: 3, 10: 4}},
		// Stairs up: 4 is passed at the top, and nothing after it but what is above it.
		{[][2]int{{1, 1}, {2, 2}, {3, 3}, {4, 4}}, map[int]int{1: 0, 2: 1, 3: 1, 4: 1, 5: 1, 64: 1}},
		// Stairs down: one is passed at each level.
		{[][2]int{{1, 4}, {2, 3}, {3, 2}, {4, 1}}, map[int]int{1: 0, 2: 1, 3: 2, 4: 3, 5: 4, 64: 4}},
		// 20 and 50 at the top; 30 and 40 at level 3; 35 and 45 at level 2; the others at level 1.
		{[][2]int{{10, 1}, {20, 4}, {25, 1}, {30, 3}, {33, 1}, {35, 2}, {36, 1}, {40, 3}, {45, 2}, {47, 1}, {50, 4}, {60, 2}}, map[int]int{
			10: 0, 11: 1, 20: 1, 21: 1, 25: 1, 26: 2, 30: 2, 31: 2, 34: 3, 35: 3, 36: 3, 37: 4, 40: 4, 41: 3, 45: 3, 46: 4, 48: 5, 50: 5, 51: 2, 60: 2, 61: 3, 64: 3,
		}},
	} {
		x := made()
		for _, p := range c.put {
			x.puts(t, p[0], p[1])
		}
		for key, want := range c.want {
			if got := x.Steps(key); got != want {
				t.Errorf("tower %d: Steps(%d) = %d, want %d", i, key, got, want)
			}
		}
		x.holds(t)
	}
}

// Promise 11.1: every range of numbers about the keys, in Towers with few, half and all of them.
func TestRange(t *testing.T) {
	few, half := made(), made()
	few.puts(t, 9, 2)
	few.puts(t, 4, 1)
	few.puts(t, 63, 3)
	few.puts(t, 0, 1)
	for key := 1; key < keys; key += 2 {
		half.puts(t, key, 1+key%3)
	}
	for _, x := range []*pair{made(), few, half, filled(t)} {
		for lo := -2; lo < keys+2; lo++ {
			for hi := -2; hi < keys+2; hi++ {
				x.between(t, lo, hi)
			}
		}
		for _, lo := range noKeys() {
			for _, hi := range noKeys() {
				x.between(t, lo, hi)
			}
		}
		x.holds(t)
	}
}

// Promise 11.1: no number but those of the levels has keys: neither those next to them nor those whose words would wrap round to words of the levels.
func TestLevelRefuses(t *testing.T) {
	x := filled(t)
	inverse := uint64(1)
	for range 64 {
		inverse *= 2 - (keys+1)*inverse
	}
	if inverse*(keys+1) != 1 {
		t.Fatal(inverse)
	}
	for i := range x.words.Len() {
		if i%(keys+1) == 0 {
			continue
		}
		if h := 1 + int(inverse*uint64(i)); len(x.Level(h)) > 0 {
			t.Errorf("Level(%d) = %v", h, x.Level(h))
		}
	}
	for h := -300; h <= 300; h++ {
		if l := x.Level(h); (len(l) > 0) != (h >= 1 && h <= high) {
			t.Errorf("Level(%d) = %v", h, l)
		}
	}
}

// Promises 11.1 and 11.2: every sequence of five calls with three keys, one of which is the least and one the greatest; a height of 0 stands for Drop.
func TestEverySequence(t *testing.T) {
	const calls = 5
	three, kinds := []int{0, 31, 63}, []int{0, 1, 2, 4}
	choices := 1
	for range calls {
		choices *= len(three) * len(kinds)
	}
	for number := range choices {
		x := made()
		for rest, n := number, 0; n < calls; n++ {
			key := three[rest%len(three)]
			rest /= len(three)
			x.does(t, key, kinds[rest%len(kinds)])
			rest /= len(kinds)
		}
		x.lists(t)
		for _, key := range []int{0, 1, 31, 32, 63, 64} {
			x.key(t, key)
		}
		if t.Failed() {
			t.Fatalf("sequence %d", number)
		}
	}
}

// does puts a key with a height, or drops it if the height is 0, and holds what the call tells.
func (x *pair) does(t *testing.T, key, height int) {
	t.Helper()
	switch {
	case height > 0 && x.p[key] == 0:
		x.puts(t, key, height)
	case height > 0:
		x.rejects(t, key, height, api.OK)
	case x.p[key] > 0:
		x.drops(t, key)
	case x.Drop(key):
		t.Errorf("Drop(%d) = true", key)
	}
}

// draws is a row of numbers that look drawn.
type draws uint64

func (d *draws) draw(m int) int {
	*d = *d*6364136223846793005 + 1442695040888963407
	return int(*d >> 33 % draws(m))
}

// Promises 11.1 and 11.2: long runs of calls with few or many keys.
func TestRuns(t *testing.T) {
	d := draws(1)
	for round := range 200 {
		x := made()
		some := 1 + d.draw(keys)
		for range 300 {
			x.does(t, d.draw(some)*(keys/some), d.draw(high+2)%(high+1))
			x.key(t, d.draw(keys+4)-2)
			x.between(t, d.draw(keys+4)-2, d.draw(keys+4)-2)
			if d.draw(10) == 0 {
				x.lists(t)
			}
		}
		x.holds(t)
		if t.Failed() {
			t.Fatalf("round %d", round)
		}
	}
}

// Promise 11.2 for a look at the words themselves: each level leads through the keys of its height, upwards, and ends.
func TestEveryLevelIsASubsequence(t *testing.T) {
	d := draws(7)
	x := made()
	for range 2000 {
		x.does(t, d.draw(keys), d.draw(high+2)%(high+1))
		w := x.words.Words()
		var below []int
		for level := range high {
			var l []int
			for p := w[level*(keys+1)]; p != 0 && len(l) <= keys; p = w[level*(keys+1)+int(p)] {
				l = append(l, int(p)-1)
			}
			if !slices.Equal(l, x.p.level(level+1)) || level > 0 && !within(l, below) {
				t.Fatalf("%v: level %d leads through %v", x.p, level+1, l)
			}
			below = l
		}
	}
}

// Rule 3: what a Tower returns shares nothing with it, nor with what an earlier call returned, the room behind the keys included.
func TestListsAreLentToNobody(t *testing.T) {
	x := made()
	for _, key := range []int{9, 3, 40, 41, 42} {
		x.puts(t, key, 3)
	}
	for _, list := range []func() []int{func() []int { return x.Level(2) }, func() []int { return x.Range(3, 42) }} {
		l, m := list(), list()
		want := slices.Clone(m)
		for i := range l[:cap(l)] {
			l[:cap(l)][i] = 77
		}
		x.holds(t)
		x.puts(t, 50, 4)
		x.drops(t, 50)
		x.drops(t, 40)
		x.puts(t, 40, 3)
		if !slices.Equal(m, want) || slices.ContainsFunc(l, func(key int) bool { return key != 77 }) {
			t.Errorf("lists from before became %v and %v", l, m)
		}
	}
}

// Promise 11.1: Towers have nothing in common.
func TestTowersAreApart(t *testing.T) {
	x, y := made(), made()
	for key := range keys {
		if key%3 > 0 {
			x.puts(t, key, 1+key%high)
		}
		if key%2 > 0 {
			y.puts(t, key, high-key%high)
		}
	}
	x.holds(t)
	y.holds(t)
	for key := 1; key < keys; key += 4 {
		y.drops(t, key)
	}
	x.holds(t)
	y.holds(t)
}

// Promise 11.1: what only tells changes nothing, however often it is asked.
func TestTellingChangesNothing(t *testing.T) {
	x := filled(t)
	x.drops(t, 20)
	was := x.words.Words()
	for range 3 {
		x.holds(t)
	}
	if !slices.Equal(x.words.Words(), was) {
		t.Error("words have changed")
	}
}

// Promise 11.3: no call panics, whatever it is given and whatever has been done.
func TestNoCallPanics(t *testing.T) {
	defer func() {
		if r := recover(); r != nil {
			t.Errorf("panic: %v", r)
		}
	}()
	odd := append(noKeys(), noHeights()...)
	odd = append(odd, 0, 1, 2, 3, 4, 31, 62, 63)
	for _, x := range []*pair{made(), filled(t)} {
		for _, n := range odd {
			for _, m := range odd {
				x.Put(n, m)
				x.Range(n, m)
				x.Drop(m)
			}
			x.Has(n)
			x.Height(n)
			x.Level(n)
			x.From(n)
			x.Steps(n)
			x.Len()
			x.Drop(n)
		}
	}
}
