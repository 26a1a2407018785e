package may

import (
	"sync"
	"testing"

	"vinculum/api"
	"vinculum/arena"
	"vinculum/clock"
	"vinculum/rec"
	"vinculum/see"
	"vinculum/table"
	"vinculum/word"
)

// world is one key, whose versions several transactions write.
type world struct {
	txns  *table.Table
	vers  *rec.Store
	words *arena.Arena
	time  *clock.Clock
}

// The words of a world.
const (
	clockAt = 0
	headAt  = 1
)

func newWorld(t *testing.T) *world {
	t.Helper()
	w := &world{}
	var e [4]api.Errno
	w.txns, e[0] = table.New(16)
	w.vers, e[1] = rec.New(16)
	w.words, e[2] = arena.New(2)
	w.time, e[3] = clock.New(w.words, clockAt, last)
	if e != [4]api.Errno{} {
		t.Fatal(e)
	}
	return w
}

// begin makes a transaction that begins now, and tells its word, too.
func (w *world) begin() (int, uint64, uint64) {
	now, _ := w.time.Draw()
	id, _ := w.txns.Make(api.LSnap, now)
	mine, _ := word.Txn(id)
	return id, mine, now
}

// put makes a version ahead of those that are there, if head is still the first of them.
func (w *world) put(value int, begin, end, head uint64) (uint64, bool) {
	link, _ := w.vers.Make(0, value, begin, end)
	w.vers.Next(link, head)
	if !w.words.CAS(headAt, head, link) {
		w.vers.Free(link)
		return 0, false
	}
	return link, true
}

// all are the versions that are there and their begin words, the newest one first.
func (w *world) all() (links, begins []uint64) {
	for l := w.words.Load(headAt); l != 0; {
		v, _ := w.vers.Get(l)
		links, begins = append(links, l), append(begins, v.Begin)
		l = v.Next
	}
	return links, begins
}

// actor is a transaction that counts the key up by one, or deletes it, a step at a time.
type actor struct {
	deletes, gives bool // what it writes, and whether it gives up after that

	next         func(w *world, a *actor, all []*actor) // its next step; nil if it has ended
	id           int
	mine         uint64
	begin, end   uint64
	head         uint64 // the first version when it looked
	old, oldEnd  uint64 // the version that it saw, and its end word then; 0 if it saw none
	value        int    // what it saw
	made         uint64 // the version that it made
	wrote, holds bool   // whether it wrote, and whether it committed
	bonds        []int
}

func start(w *world, a *actor, _ []*actor) {
	a.id, a.mine, a.begin = w.begin()
	a.next = find
}

// find looks for the version that the actor sees; where there is none it also asks whether it may make the first one, from words that are as new as the answer.
func find(w *world, a *actor, _ []*actor) {
	links, begins := w.all()
	a.head, a.old, a.value, a.bonds = w.words.Load(headAt), 0, 0, nil
	for _, l := range links {
		v, _ := w.vers.Get(l)
		kind, on := see.See(v.Begin, v.End, a.id, a.begin, w.txns.Get)
		if kind == api.VAgain {
			return
		}
		a.bonds = append(a.bonds, on...)
		if kind == api.VYes {
			a.old, a.oldEnd, a.value = l, v.End, v.Value
			break
		}
	}
	switch {
	case a.old != 0:
		a.next = judge
	case a.deletes:
		a.next = prepare
	case First(begins, a.id, a.begin, w.txns.Get):
		a.next = claim
	default:
		a.next = abort
	}
}

// judge asks about the end word that find read, which may no longer be there.
func judge(w *world, a *actor, _ []*actor) {
	kind, _ := Write(a.oldEnd, a.id, w.txns.Get)
	switch kind {
	case api.VYes:
		a.next = claim
	case api.VAgain:
		a.next = find
	default:
		a.next = abort
	}
}

// claim writes if nobody was first; what was decided holds of the words that were read only.
func claim(w *world, a *actor, _ []*actor) {
	a.next = find
	if a.old != 0 && !w.vers.End(a.old, a.oldEnd, a.mine) {
		return
	}
	ok := true
	switch {
	case a.deletes:
	case a.old != 0:
		a.made, ok = w.put(a.value+1, a.mine, ever, w.words.Load(headAt))
	default:
		a.made, ok = w.put(1, a.mine, ever, a.head)
	}
	if !ok {
		return
	}
	a.wrote, a.next = true, prepare
	if a.gives {
		a.next = abort
	}
}

func prepare(w *world, a *actor, _ []*actor) {
	w.txns.Turn(a.id, api.SPrep)
	a.end, _ = w.time.Draw()
	w.txns.End(a.id, a.end)
	a.next = commit
}

// commit waits for those that it has bonds to.
func commit(w *world, a *actor, all []*actor) {
	for _, b := range all {
		for _, id := range a.bonds {
			if b.id == id && b.next != nil && !b.holds {
				return
			}
			if b.id == id && !b.holds {
				a.next = abort
				return
			}
		}
	}
	w.txns.Turn(a.id, api.SCommitted)
	a.holds, a.next = true, stamp
}

func stamp(w *world, a *actor, _ []*actor) {
	w.vers.Begin(a.made, a.mine, a.end)
	w.vers.End(a.old, a.mine, a.end)
	w.txns.Turn(a.id, api.SDone)
	a.next = nil
}

func abort(w *world, a *actor, _ []*actor) {
	w.txns.Turn(a.id, api.SAborted)
	a.next = undo
}

// undo gives back what the actor ended, if nobody took it over, and leaves what it made over from the start on.
func undo(w *world, a *actor, _ []*actor) {
	w.vers.End(a.old, a.mine, ever)
	if v, ok := w.vers.Get(a.made); ok {
		w.vers.End(a.made, v.End, 0)
		w.vers.Begin(a.made, a.mine, 0)
	}
	w.txns.Turn(a.id, api.SDone)
	a.next = nil
}

// Kinds of what is there before the actors begin.
const (
	nothing = iota
	present
	deleted
	worlds
)

// play lets actors act in the given order, and then in turn until all have ended. It tells the value that is there at last, and whether they ended.
func play(t *testing.T, kind int, all []*actor, order func(n int) int, steps int) (int, bool) {
	t.Helper()
	w := newWorld(t)
	if kind != nothing {
		end := word.Forever()
		if kind == deleted {
			end = 2
		}
		w.time.Draw()
		w.time.Draw()
		w.put(10, 1, end, 0)
	}
	for _, a := range all {
		a.next = start
	}
	act := func(i int) {
		if a := all[i]; a.next != nil {
			a.next(w, a, all)
		}
	}
	for n := range steps {
		act(order(n))
	}
	for n := 0; ; n++ {
		if n > 200 {
			return 0, false
		}
		ended := true
		for i := range all {
			act(i)
			ended = ended && all[i].next == nil
		}
		if ended {
			break
		}
	}
	links, _ := w.all()
	for _, l := range links {
		v, _ := w.vers.Get(l)
		if seen, _ := see.See(v.Begin, v.End, 99, w.time.Now(), w.txns.Get); seen == api.VYes {
			return v.Value, true
		}
	}
	return 0, true
}

// apart tells whether no two committed writers overlap.
func apart(all []*actor) bool {
	for i, a := range all {
		for _, b := range all[:i] {
			both := a.holds && b.holds && a.wrote && b.wrote
			if both && a.end > b.begin && b.end > a.begin {
				return false
			}
		}
	}
	return true
}

// Promise 8.3, W4: in every order of the steps of two transactions that update, insert or delete one key, and end well or give up, no two that committed overlap, no count is lost, and one commits unless both give up.
func TestEveryOrderOfTwoWriters(t *testing.T) {
	const steps = 7
	var one, two int
	for kind := range worlds {
		for plan := range 16 {
			var orders func(mask, n, ones int)
			run := func(mask int) {
				a := &actor{deletes: plan&1 != 0, gives: plan&2 != 0}
				b := &actor{deletes: plan&4 != 0, gives: plan&8 != 0}
				value, ended := play(t, kind, []*actor{a, b}, func(n int) int { return mask >> n & 1 }, 2*steps)
				tell := func(what string) {
					t.Fatalf("%s: world %d, plan %d, order %b", what, kind, plan, mask)
				}
				if !ended {
					tell("no end")
				}
				if !apart([]*actor{a, b}) {
					tell("two first writers")
				}
				if !a.gives && !b.gives && !a.holds && !b.holds {
					tell("none commits")
				}
				count := 0
				if kind == present {
					count = 10
				}
				for _, x := range []*actor{a, b} {
					if x.holds {
						count++
					}
				}
				if !a.deletes && !b.deletes && value != count {
					tell("a count is lost")
				}
				if a.holds && b.holds {
					two++
				} else if a.holds || b.holds {
					one++
				}
			}
			orders = func(mask, n, ones int) {
				if n == 2*steps {
					run(mask)
					return
				}
				if ones < steps {
					orders(mask|1<<n, n+1, ones+1)
				}
				if n-ones < steps {
					orders(mask, n+1, ones)
				}
			}
			orders(0, 0, 0)
		}
	}
	if one == 0 || two == 0 {
		t.Error(one, two)
	}
}

// Promise 8.3, W4: the same of two to six transactions, in a long run of orders.
func TestManyWriters(t *testing.T) {
	seed := uint64(5)
	draw := func(n int) int {
		seed = seed*6364136223846793005 + 1442695040888963407
		return int(seed >> 33 % uint64(n))
	}
	for range 20000 {
		kind, n, deletes := draw(worlds), 2+draw(5), draw(2) == 0
		var all []*actor
		for range n {
			all = append(all, &actor{deletes: deletes && draw(3) == 0, gives: draw(4) == 0})
		}
		value, ended := play(t, kind, all, func(int) int { return draw(n) }, 9*n)
		if !ended {
			t.Fatal("no end")
		}
		if !apart(all) {
			t.Fatal("two first writers")
		}
		count := 0
		if kind == present {
			count = 10
		}
		for _, a := range all {
			if a.holds {
				count++
			}
		}
		if !deletes && value != count {
			t.Fatalf("%d are there, want %d", value, count)
		}
	}
}

// W4: one after the other all commit, whatever is there ahead of them.
func TestWritersInTurn(t *testing.T) {
	for kind := range worlds {
		for deletes := range 8 {
			var all []*actor
			for i := range 3 {
				all = append(all, &actor{deletes: deletes>>i&1 == 1})
			}
			if _, ended := play(t, kind, all, func(n int) int { return n / 20 }, 60); !ended {
				t.Fatal("no end")
			}
			for i, a := range all {
				if !a.holds {
					t.Errorf("world %d, deletes %b: actor %d is aborted", kind, deletes, i)
				}
			}
		}
	}
}

// became are words that an earlier transaction may have left, and whether one more may write there.
func became(w *world, state int) (uint64, bool) {
	id, mine, _ := w.begin()
	if state == api.SAborted {
		w.txns.Turn(id, api.SAborted)
		return mine, true
	}
	if state >= api.SPrep {
		w.txns.Turn(id, api.SPrep)
	}
	if state >= api.SCommitted {
		w.txns.Turn(id, api.SCommitted)
	}
	if state == api.SDone {
		w.txns.Turn(id, api.SDone)
	}
	return mine, false
}

// Promise 8.3: of three transactions that want to end one version, in every order of their looks, judgements and exchanges, one may if its end word leaves it open, and none otherwise.
func TestOneOfThreeEndsAVersion(t *testing.T) {
	for left := range 7 {
		var orders func(order []int, took [3]int)
		run := func(order []int) {
			w := newWorld(t)
			end, open := word.Forever(), true
			switch {
			case left == 6:
				end, open = 1, false
			case left > 0:
				end, open = became(w, left)
			}
			v, _ := w.put(1, 0, end, 0)
			var mine, was [3]uint64
			var id, kind, at [3]int
			for i := range id {
				id[i], mine[i], _ = w.begin()
			}
			won := 0
			for _, i := range order {
				switch at[i] {
				case 0:
					x, _ := w.vers.Get(v)
					was[i] = x.End
				case 1:
					kind[i], _ = Write(was[i], id[i], w.txns.Get)
				case 2:
					if kind[i] == api.VYes && w.vers.End(v, was[i], mine[i]) {
						won++
					}
				}
				at[i]++
			}
			if open && won != 1 || !open && won != 0 {
				t.Fatalf("left %d, order %v: %d may write", left, order, won)
			}
		}
		orders = func(order []int, took [3]int) {
			if len(order) == 9 {
				run(order)
				return
			}
			for i := range took {
				if took[i] < 3 {
					next := took
					next[i]++
					orders(append(order[:len(order):len(order)], i), next)
				}
			}
		}
		orders(nil, [3]int{})
	}
}

// Section Ways, promise 8.3: sessions side by side that end one version: one of them does by its exchange; when that one is aborted, one of the others takes over, and when it commits, none does.
func TestSideBySide(t *testing.T) {
	const sessions = 8
	for round := range 300 {
		w := newWorld(t)
		v, _ := w.put(1, 0, ever, 0)
		var id [sessions]int
		var mine [sessions]uint64
		for i := range id {
			id[i], mine[i], _ = w.begin()
		}
		var won, took [sessions]bool
		aborts := round%2 == 0
		contest := func(wins *[sessions]bool, skip int) {
			var all sync.WaitGroup
			for i := range id {
				if i == skip {
					continue
				}
				all.Add(1)
				go func() {
					defer all.Done()
					x, _ := w.vers.Get(v)
					kind, _ := Write(x.End, id[i], w.txns.Get)
					wins[i] = kind == api.VYes && w.vers.End(v, x.End, mine[i])
				}()
			}
			all.Wait()
		}
		winner := func(wins [sessions]bool) (int, int) {
			n, who := 0, -1
			for i, ok := range wins {
				if ok {
					n, who = n+1, i
				}
			}
			return n, who
		}
		contest(&won, -1)
		n, first := winner(won)
		if n != 1 {
			t.Fatalf("%d may write", n)
		}
		if aborts {
			w.txns.Turn(id[first], api.SAborted)
		} else {
			w.txns.Turn(id[first], api.SPrep)
			w.txns.Turn(id[first], api.SCommitted)
		}
		contest(&took, first)
		n, _ = winner(took)
		if aborts && n != 1 || !aborts && n != 0 {
			t.Fatalf("%d may write after the first one, aborted %t", n, aborts)
		}
	}
}

// Section Ways, promise 8.3: sessions side by side that make the first version of a key: one of them does by its exchange, and none after it while that one is active.
func TestFirstSideBySide(t *testing.T) {
	const sessions = 8
	for range 300 {
		w := newWorld(t)
		aborted, _ := became(w, api.SAborted)
		w.put(1, 0, 1, 0)
		head, _ := w.put(2, aborted, ever, w.words.Load(headAt))
		var id [sessions]int
		var mine, begin [sessions]uint64
		for i := range id {
			id[i], mine[i], begin[i] = w.begin()
		}
		_, begins := w.all()
		var may, won [sessions]bool
		var all sync.WaitGroup
		for i := range id {
			all.Add(1)
			go func() {
				defer all.Done()
				may[i] = First(begins, id[i], begin[i], w.txns.Get)
				won[i] = may[i] && w.words.CAS(headAt, head, mine[i])
			}()
		}
		all.Wait()
		n := 0
		for i := range id {
			if !may[i] {
				t.Fatalf("session %d may not write", i)
			}
			if won[i] {
				n++
			}
		}
		if n != 1 {
			t.Fatalf("%d made the first version", n)
		}
		for i := range id {
			after := append([]uint64{w.words.Load(headAt)}, begins...)
			if First(after, id[i], begin[i], w.txns.Get) != won[i] {
				t.Fatalf("session %d may write after the first one: %t", i, !won[i])
			}
		}
	}
}
