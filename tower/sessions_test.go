package tower

import (
	"slices"
	"sync"
	"testing"
)

// Section Ways: the words that link the levels are all that a Tower is: another one on a copy of them tells the same and goes on by itself.
func TestTheWordsAreTheTower(t *testing.T) {
	d := draws(3)
	x := made()
	for range 200 {
		x.does(t, d.draw(keys), d.draw(high+2)%(high+1))
		y := &pair{Tower: &Tower{words: x.words.Copy()}, p: x.p}
		y.lists(t)
		y.does(t, d.draw(keys), d.draw(high+1))
		y.holds(t)
		x.lists(t)
	}
	x.holds(t)
}

// Section Ways and promise 11.1: a search looks at one word for each key that it passes, as Steps counts them, and at one more at each level.
func TestASearchPassesWhatStepsTells(t *testing.T) {
	d := draws(5)
	for range 20 {
		x := made()
		for range 1 + d.draw(150) {
			x.does(t, d.draw(keys), d.draw(high+2)%(high+1))
		}
		for _, key := range append(noKeys(), 0, 1, 5, 31, 62, 63) {
			for i, search := range []func(){
				func() { x.From(key) },
				func() { x.Has(key) },
				func() { x.Height(key) },
				func() { x.Steps(key) },
				func() { x.Range(key, -1) },
			} {
				was := x.words.Count()
				search()
				if got, want := x.words.Count()-was, x.p.steps(key)+high; got != want {
					t.Errorf("%v: call %d with %d looks at %d words, want %d", x.p, i, key, got, want)
				}
			}
		}
	}
}

// sessions is how many call at a time in the test below.
const sessions = 8

// together has each session run, all at a time, and returns when all of them are done.
func together(run func(k int)) {
	var all sync.WaitGroup
	start := make(chan struct{})
	for k := range sessions {
		all.Go(func() {
			<-start
			run(k)
		})
	}
	close(start)
	all.Wait()
}

// stays, changes and never divide the keys in the test below: those that are there all the time, those that are put and dropped meanwhile, and those that never are there.
func stays(key int) bool   { return key%8 == 7 }
func changes(key int) bool { return key%8 < 6 }
func never(key int) bool   { return key%8 == 6 }

// staying is a Tower with the keys that stay there.
func staying(t *testing.T, d *draws) *pair {
	t.Helper()
	x := made()
	for key := range keys {
		if stays(key) {
			x.puts(t, key, 1+d.draw(high))
		}
	}
	return x
}

// seen holds a list that was told beside a writer: it is ascending, has all keys from lo to hi that stay there, and none that never are.
func (x *pair) seen(l []int, height, lo, hi int) bool {
	for i, key := range l {
		if key < lo || key > hi || never(key) || i > 0 && key <= l[i-1] {
			return false
		}
	}
	for key := lo; key <= hi; key++ {
		if stays(key) && x.p[key] >= height && !slices.Contains(l, key) {
			return false
		}
	}
	return true
}

// looks holds what a session is told of a key and from there on while another one writes.
func (x *pair) looks(key int) bool {
	h := x.Height(key)
	if stays(key) && h != x.p[key] || never(key) && h != 0 {
		return false
	}
	last := key | 7 // the next key that stays
	first, ok := x.From(key)
	if !ok || first < key || first > last || never(first) {
		return false
	}
	if n := x.Steps(key); n < 0 || n > key {
		return false
	}
	level := 1 + key%high
	return x.seen(x.Range(key, last), 1, key, last) && x.seen(x.Level(level), level, 0, keys-1) && x.Has(last)
}

// writes puts and drops keys that change, as they are drawn.
func (x *pair) writes(d *draws) bool {
	for range 4 * keys {
		key := d.draw(keys)
		if !changes(key) {
			continue
		}
		h := 0
		if x.p[key] > 0 {
			if !x.Drop(key) {
				return false
			}
		} else {
			h = 1 + d.draw(high)
			if ok, _ := x.Put(key, h); !ok {
				return false
			}
		}
		x.p[key] = h
	}
	return true
}

// Section Ways, promises 11.1 and 11.3: while one session puts and drops keys, others find all that stays there, and nothing that never was.
func TestLooksBesideAWriter(t *testing.T) {
	d := draws(11)
	for round := range 1500 {
		x := staying(t, &d)
		var bad [sessions]bool
		together(func(k int) {
			if k == 0 {
				bad[k] = !x.writes(&d)
				return
			}
			for n := range 60 {
				bad[k] = bad[k] || !x.looks((9*k+n*29)%keys)
			}
		})
		if bad != [sessions]bool{} {
			t.Fatalf("round %d: %v", round, bad)
		}
		x.holds(t)
	}
}

// rises holds that keys which one look after the other found at levels from the bottom up were found at each level below; falls looks from the top down.
func (x *pair) rises() bool {
	below := x.Level(1)
	for h := 2; h <= high; h++ {
		l := x.Level(h)
		if !within(l, below) {
			return false
		}
		below = l
	}
	return true
}

func (x *pair) falls() bool {
	above := x.Level(high)
	for h := high - 1; h >= 1; h-- {
		l := x.Level(h)
		if !within(above, l) {
			return false
		}
		above = l
	}
	return true
}

// Section Ways, promise 11.2: at each moment every level is a subsequence of the one below it: beside a session that only puts, looks from the top down find no key missing, and beside one that only drops, looks from the bottom up.
func TestLevelsBesideAWriter(t *testing.T) {
	some := []int{63, 3, 40, 0, 17, 62}
	for round := range 4000 {
		x := made()
		var bad [sessions]bool
		together(func(k int) {
			for i, key := range some {
				if k == 0 {
					x.Put(key, 1+(i+round)%high)
				}
				bad[k] = bad[k] || k > 0 && !x.falls()
			}
		})
		together(func(k int) {
			for _, key := range some {
				if k == 0 {
					x.Drop(key)
				}
				bad[k] = bad[k] || k > 0 && !x.rises()
			}
		})
		if bad != [sessions]bool{} {
			t.Fatalf("round %d: %v", round, bad)
		}
		x.holds(t)
	}
}
