package chain

import (
	"slices"
	"sync"
	"testing"

	"vinculum/api"
	"vinculum/may"
	"vinculum/table"
)

// sessions is how many call at a time in the tests of the section Ways.
const sessions = 8

// together has each session run, all at a time, and returns when all of them are done.
func together(run func(k int)) {
	var all sync.WaitGroup
	start := make(chan struct{})
	for k := range sessions {
		all.Go(func() {
			<-start
			run(k)
		})
	}
	close(start)
	all.Wait()
}

// own is a Chain of its own for each session, all of them on the same word.
func (h *shelf) own(t *testing.T) []*Chain {
	t.Helper()
	var l []*Chain
	for range sessions {
		c, e := New(h.s, h.a, first)
		if e != api.OK {
			t.Fatal(e)
		}
		l = append(l, c)
	}
	return l
}

// only are the links of l that are among those of m, in the order of l.
func only(l, m []uint64) []uint64 {
	var o []uint64
	for _, w := range l {
		if slices.Contains(m, w) {
			o = append(o, w)
		}
	}
	return o
}

// onTop tells whether a list is another one with more links ahead of it.
func onTop(l, rest []uint64) bool {
	return len(l) >= len(rest) && slices.Equal(l[len(l)-len(rest):], rest)
}

// share deals links out to the sessions, one after the other.
func share(l []uint64) (to [sessions][]uint64) {
	for i, w := range l {
		to[i%sessions] = append(to[i%sessions], w)
	}
	return to
}

// Section Ways, promise 9.2: of versions that many push at a time none is lost and none comes twice, those that were there stay behind them, and those of one session come in its order.
func TestNoPushIsLost(t *testing.T) {
	for round := range 600 {
		each, old := 1+round%12, round%3
		h := made(t, old+sessions*each)
		was := h.pushed(t, old)
		chains, new := h.own(t), h.versions(t, sessions*each)
		mine := share(new)
		var refused [sessions]bool
		together(func(k int) {
			for _, w := range mine[k] {
				refused[k] = !chains[k].Push(w) || refused[k]
			}
		})
		l := h.Links()
		if !onTop(l, was) || len(l) != old+len(new) || len(only(new, l)) != len(new) {
			t.Fatalf("round %d: %#x on %#x became %#x", round, new, was, l)
		}
		for k := range sessions {
			got := only(l, mine[k])
			slices.Reverse(got)
			if refused[k] || !slices.Equal(got, mine[k]) {
				t.Fatalf("round %d: session %d pushed %#x, refused: %v; there is %#x", round, k, mine[k], refused[k], got)
			}
		}
	}
}

// Section Ways, promise 9.2: what is seen while others push is at every moment a list on which the later ones lie, with one's own pushes in it.
func TestListsGrowOnTop(t *testing.T) {
	const each, pushing = 60, 4
	h := made(t, pushing*each+1)
	h.pushed(t, 1)
	chains, new := h.own(t), h.versions(t, pushing*each)
	good := make([]bool, sessions)
	together(func(k int) {
		good[k] = true
		var was []uint64
		for n := range each {
			if k < pushing {
				w := new[k*each+n]
				good[k] = good[k] && chains[k].Push(w) && slices.Contains(chains[k].Links(), w) && !chains[k].Push(w)
				continue
			}
			head := chains[k].Head()
			l := chains[k].Links()
			good[k] = good[k] && onTop(l, was) && slices.Contains(l, head) && chains[k].Len() >= len(l)
			was = l
		}
	})
	if slices.Contains(good, false) {
		t.Errorf("a session saw or met what cannot be: %v", good)
	}
	if h.Len() != pushing*each+1 {
		t.Errorf("Len() = %d", h.Len())
	}
}

// Section Ways: one session cuts while others push and look: what is cut is out at last, all else is there, and no look misses a version that is neither cut nor new.
func TestCutBesidePush(t *testing.T) {
	for round := range 300 {
		const each, pushing, old = 8, 5, 12
		h := made(t, pushing*each+old)
		l := h.pushed(t, old)
		var gone, stay []uint64
		for i, w := range l {
			// The first one goes in every round: it is the one that a push meets.
			if i == 0 || (round>>(i%6))&1 == 1 {
				gone = append(gone, w)
			} else {
				stay = append(stay, w)
			}
		}
		chains, new := h.own(t), h.versions(t, pushing*each)
		good := make([]bool, sessions)
		together(func(k int) {
			good[k] = true
			for n := range each {
				switch {
				case k < pushing:
					good[k] = chains[k].Push(new[k*each+n]) && good[k]
				case k > pushing:
					good[k] = slices.Equal(only(chains[k].Links(), stay), stay) && good[k]
				}
			}
			if k == pushing {
				for _, w := range gone {
					good[k] = chains[k].Cut(w) && !chains[k].Cut(w) && good[k]
				}
			}
		})
		if slices.Contains(good, false) {
			t.Fatalf("round %d: a session saw or met what cannot be: %v", round, good)
		}
		l = h.Links()
		if !onTop(l, stay) || len(l) != len(stay)+len(new) || len(only(new, l)) != len(new) {
			t.Fatalf("round %d: %#x on %#x without %#x became %#x", round, new, stay, gone, l)
		}
	}
}

// Section Ways: one session puts a version in and cuts it again and again, mostly while it is the first one, and others push meanwhile: none of what they push is cut with it.
func TestCutTakesNoPushWithIt(t *testing.T) {
	for round := range 200 {
		const each = 6
		h := made(t, sessions*each)
		chains, all := h.own(t), h.versions(t, sessions*each)
		new, mine := all[each:], all[0]
		var refused [sessions]bool
		together(func(k int) {
			for n := range each {
				if k > 0 {
					refused[k] = !chains[k].Push(new[(k-1)*each+n]) || refused[k]
				}
			}
			if k == 0 {
				for range 8 * each {
					refused[k] = !chains[k].Push(mine) || !chains[k].Cut(mine) || refused[k]
				}
			}
		})
		l := h.Links()
		if refused != [sessions]bool{} || len(l) != len(new) || len(only(new, l)) != len(new) {
			t.Fatalf("round %d: %#x became %#x, refused: %v", round, new, l, refused)
		}
	}
}

// Section Ways: of many that cut the first version at a time one does, and the others find that it is gone.
func TestOneCutsTheFirst(t *testing.T) {
	for range 1000 {
		h := made(t, 2)
		l := h.pushed(t, 2)
		chains := h.own(t)
		var cut [sessions]bool
		together(func(k int) { cut[k] = chains[k].Cut(l[0]) })
		n := 0
		for _, ok := range cut {
			if ok {
				n++
			}
		}
		if n != 1 {
			t.Fatalf("%d sessions have cut one version", n)
		}
		h.holds(t, l[1])
	}
}

// world is one key with its Chain, whose first version several transactions want to make.
type world struct {
	*shelf
	txns *table.Table
	now  uint64
}

func newWorld(t *testing.T, versions, txns int) *world {
	t.Helper()
	x, e := table.New(txns)
	if e != api.OK {
		t.Fatal(e)
	}
	return &world{shelf: made(t, versions), txns: x}
}

func (w *world) tick() uint64 {
	w.now++
	return w.now
}

// actor is a transaction that puts a version into the Chain, and lets it stand if nobody was first.
type actor struct {
	gives      bool // whether it gives up though nobody was first
	next       func(w *world, a *actor)
	id         int
	begin, end uint64
	made       uint64
	holds      bool
}

func start(w *world, a *actor) {
	a.begin = w.tick()
	a.id, _ = w.txns.Make(api.LSnap, a.begin)
	a.next = put
}

func put(w *world, a *actor) {
	a.made, _ = w.s.Make(0, a.id, txn(a.id), ever)
	w.Push(a.made)
	a.next = judge
}

// alone tells whether nobody was first: whoever was lies behind the actor's own version.
func alone(w *world, a *actor) bool {
	l := w.Links()
	i := slices.Index(l, a.made)
	if i < 0 {
		return false
	}
	var begins []uint64
	for _, x := range l[i+1:] {
		v, _ := w.s.Get(x)
		begins = append(begins, v.Begin)
	}
	return may.First(begins, a.id, a.begin, w.txns.Get)
}

func judge(w *world, a *actor) {
	a.next = commit
	if a.gives || !alone(w, a) {
		a.next = abort
	}
}

func commit(w *world, a *actor) {
	w.txns.Turn(a.id, api.SPrep)
	a.end = w.tick()
	w.txns.End(a.id, a.end)
	w.txns.Turn(a.id, api.SCommitted)
	a.holds, a.next = true, stamp
}

func stamp(w *world, a *actor) {
	w.s.Begin(a.made, txn(a.id), a.end)
	w.txns.Turn(a.id, api.SDone)
	a.next = nil
}

func abort(w *world, a *actor) {
	w.txns.Turn(a.id, api.SAborted)
	a.next = undo
}

func undo(w *world, a *actor) {
	w.Cut(a.made)
	w.s.Free(a.made)
	w.txns.Turn(a.id, api.SDone)
	a.next = nil
}

// play lets actors act in the given order, and then in turn until all have ended.
func play(t *testing.T, old int, all []*actor, order func(n int) int, steps int) *world {
	t.Helper()
	w := newWorld(t, old+len(all), len(all))
	for range old {
		v, _ := w.s.Make(0, 0, w.tick(), ever)
		w.pushes(t, v)
	}
	for _, a := range all {
		a.next = start
	}
	for n := range steps {
		if a := all[order(n)]; a.next != nil {
			a.next(w, a)
		}
	}
	for _, a := range all {
		for a.next != nil {
			a.next(w, a)
		}
	}
	return w
}

// ended holds what an order of steps has led to: no two that committed overlap, one commits if none gives up, and the Chain has the versions of those that committed, the newest one first, ahead of the old ones.
func ended(t *testing.T, w *world, old int, all []*actor) {
	t.Helper()
	var ends []uint64
	gives := false
	for i, a := range all {
		gives = gives || a.gives
		if !a.holds {
			continue
		}
		ends = append(ends, a.end)
		for _, b := range all[:i] {
			if b.holds && a.end > b.begin && b.end > a.begin {
				t.Error("two first writers")
			}
		}
	}
	if len(ends) == 0 && !gives {
		t.Error("none commits")
	}
	for i := range old {
		ends = append(ends, uint64(i+1))
	}
	slices.Sort(ends)
	slices.Reverse(ends)
	var begins []uint64
	for _, x := range w.Links() {
		v, _ := w.s.Get(x)
		begins = append(begins, v.Begin)
	}
	if !slices.Equal(begins, ends) || w.s.Used() != len(ends) {
		t.Errorf("the Chain has versions of %v, want %v; %d slots are used", begins, ends, w.s.Used())
	}
}

// W4, promise 9.2: a version has behind it all that were there before it, so that in every order of the steps of two transactions that make a key's first version the one that pushed first writes, and no two that committed overlap.
func TestEveryOrderOfTwoWriters(t *testing.T) {
	const steps = 6
	both := 0
	for plan := range 8 {
		var orders func(mask, n, ones int)
		orders = func(mask, n, ones int) {
			if n < 2*steps {
				if ones < steps {
					orders(mask|1<<n, n+1, ones+1)
				}
				if n-ones < steps {
					orders(mask, n+1, ones)
				}
				return
			}
			all := []*actor{{gives: plan&1 != 0}, {gives: plan&2 != 0}}
			w := play(t, plan>>2, all, func(n int) int { return mask >> n & 1 }, 2*steps)
			ended(t, w, plan>>2, all)
			if t.Failed() {
				t.Fatalf("plan %d, order %b", plan, mask)
			}
			if all[0].holds && all[1].holds {
				both++
			}
		}
		orders(0, 0, 0)
	}
	if both == 0 {
		t.Error("no order lets both commit")
	}
}

// W4, promise 9.2: the same of two to seven transactions, in a long run of orders.
func TestManyWriters(t *testing.T) {
	seed := uint64(7)
	draw := func(n int) int {
		seed = seed*6364136223846793005 + 1442695040888963407
		return int(seed >> 33 % uint64(n))
	}
	for range 20000 {
		n, old := 2+draw(6), draw(3)
		var all []*actor
		for range n {
			all = append(all, &actor{gives: draw(4) == 0})
		}
		w := play(t, old, all, func(int) int { return draw(n) }, 6*n)
		ended(t, w, old, all)
		if t.Failed() {
			t.Fatal(n, old)
		}
	}
}

// W4 and section Ways: sessions side by side that push a version each for the same key: the one whose version has none of the others behind it is the only one that may write.
func TestFirstSideBySide(t *testing.T) {
	for round := range 500 {
		old := round % 3
		w := newWorld(t, old+sessions, sessions)
		for range old {
			v, _ := w.s.Make(0, 0, w.tick(), ever)
			w.pushes(t, v)
		}
		chains := w.own(t)
		var all [sessions]actor
		for k := range all {
			start(w, &all[k])
			all[k].made, _ = w.s.Make(0, 0, txn(all[k].id), ever)
		}
		together(func(k int) {
			mine := &world{shelf: &shelf{Chain: chains[k], s: w.s, a: w.a}, txns: w.txns}
			mine.Push(all[k].made)
			all[k].holds = alone(mine, &all[k])
		})
		won := 0
		for k := range all {
			if all[k].holds {
				won++
			}
		}
		if won != 1 || w.Len() != old+sessions {
			t.Fatalf("round %d: %d may write, %d versions", round, won, w.Len())
		}
	}
}
