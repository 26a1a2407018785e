package mark

import (
	"slices"
	"testing"

	"vinculum/api"
	"vinculum/may"
	"vinculum/see"
	"vinculum/table"
	"vinculum/word"
)

// The tests of this file hold what Garbage is for, 17.2, and W7 as far as it hangs on that: versions are swept beside transactions that see by package see and write where package may lets them.

// The transactions that are looked at, by their ids: one in each state, with and without an end time.
func someTxns() []api.Txn {
	l := []api.Txn{{}}
	for _, state := range []int{api.SActive, api.SPrep, api.SCommitted, api.SAborted, api.SDone} {
		for _, end := range []uint64{0, 2, 5} {
			l = append(l, api.Txn{Level: api.LSnap, State: state, End: end})
		}
	}
	return l
}

// someWords are times, the words of transactions that are known and of one that is not, for ever, and words that are no stamp.
func someWords() []uint64 {
	l := []uint64{0, 1, 2, 3, 4, 5, 6, last, last + 1, word.Forever(), word.Forever() + 1, 1 << 63}
	for id := 1; id <= len(someTxns()); id++ {
		w, _ := word.Txn(id)
		l = append(l, w)
	}
	return l
}

// someTimes are all lists of up to three begin times.
func someTimes() [][]uint64 {
	l := [][]uint64{nil}
	for i := 0; len(l[i]) < 3; i++ {
		for at := range uint64(5) {
			l = append(l, append(slices.Clone(l[i]), at))
		}
	}
	return l
}

// Promise 17.2: what is Garbage for the oldest of any active transactions is seen by none of these, nor by one that begins now or later, whoever made it and whatever became of that one.
func TestGarbageIsNotSeen(t *testing.T) {
	txns := someTxns()
	look := func(id int) (api.Txn, bool) {
		if id < 1 || id >= len(txns) {
			return api.Txn{}, false
		}
		return txns[id], true
	}
	words, garbage := someWords(), 0
	for _, times := range someTimes() {
		m := of(times...)
		for _, now := range []uint64{4, 5, 6} {
			low := m.Low(now)
			looks := append(slices.Clone(times), now, now+1, last)
			for _, begin := range words {
				for _, end := range words {
					if !Garbage(begin, end, low) {
						continue
					}
					garbage++
					for _, at := range looks {
						for _, me := range []int{1, 4, 99} {
							if seen, _ := see.See(begin, end, me, at, look); seen == api.VYes {
								t.Fatalf("times %v: %d sees %d to %d at %d, which is garbage", times, me, begin, end, at)
							}
						}
					}
				}
			}
		}
	}
	if garbage < 10000 {
		t.Errorf("%d versions were garbage", garbage)
	}
}

// Promise 17.2, the other way round: what is over and not yet Garbage is still seen by the oldest active transaction, so that nothing waits longer than it has to.
func TestOldestSeesTheRest(t *testing.T) {
	for _, times := range someTimes() {
		m := of(times...)
		for now := range uint64(7) {
			low := m.Low(now)
			for end := low; end < 9; end++ {
				for begin := range low + 1 {
					seen, _ := see.See(begin, end, 99, low, nil)
					if over := end >= 1 && Garbage(begin, end, low); end >= 1 && over == (seen == api.VYes) {
						t.Fatalf("times %v, now %d: %d to %d is garbage: %v, and is seen: %d", times, now, begin, end, over, seen)
					}
				}
			}
		}
	}
}

const few = 3 // keys

// version is a value of a key, from one word to another.
type version struct {
	value      int
	begin, end uint64
}

// act is a call of a transaction.
type act struct{ kind, key int }

// txn is a transaction: it makes its calls one after the other, quits or prepares, gets its outcome, and replaces its words one by one.
type txn struct {
	acts    []act
	quits   bool
	id, at  int
	begin   uint64
	state   int
	settled bool
}

// world is the versions of all keys, the newest first, and the transactions on them.
type world struct {
	t     *testing.T
	table *table.Table
	marks *Marks
	now   uint64
	keys  [few][]*version
	txns  []*txn
	last  int
	gone  int // how many versions were swept
	kept  int // how often one was not that was over already
}

func inWorld(t *testing.T, scripts []txn) *world {
	tab, _ := table.New(len(scripts))
	w := &world{t: t, table: tab, marks: New()}
	for _, x := range scripts {
		w.txns = append(w.txns, &x)
	}
	return w
}

// result is what a step came to.
type result struct {
	state int
	found int
	on    int
	ok    bool
}

// word is the word of a transaction.
func (x *txn) word() uint64 {
	n, _ := word.Txn(x.id)
	return n
}

// step makes the next step of a transaction. Settling has no result: how many steps it takes hangs on how many versions are left.
func (w *world) step(x *txn) result {
	r := result{}
	switch {
	case x.id == 0:
		x.begin = w.now
		x.id, _ = w.table.Make(api.LSnap, x.begin)
		x.state = api.SActive
		w.marks.Enter(x.begin)
	case x.state == api.SActive && x.at < len(x.acts):
		x.at++
		r = w.acts(x, x.acts[x.at-1])
	case x.state == api.SActive && x.quits:
		w.ends(x, api.SAborted)
	case x.state == api.SActive:
		w.now++
		w.turns(x, api.SPrep)
		w.table.End(x.id, w.now)
	case x.state == api.SPrep:
		w.ends(x, api.SCommitted)
	default:
		w.settles(x)
		return result{}
	}
	r.state = x.state
	return r
}

func (w *world) turns(x *txn, to int) {
	w.t.Helper()
	if e := w.table.Turn(x.id, to); e != api.OK {
		w.t.Errorf("Turn(%d, %d) = %d", x.id, to, e)
	}
	x.state = to
}

// ends gives a transaction its outcome: it is active no more.
func (w *world) ends(x *txn, outcome int) {
	w.turns(x, outcome)
	if !w.marks.Leave(x.begin) {
		w.t.Errorf("Leave(%d) = false", x.begin)
	}
}

// acts makes a call; one that may not write ends the transaction.
func (w *world) acts(x *txn, a act) result {
	v, on := w.visible(x, a.key)
	r := result{found: -1, ok: true, on: on}
	if v != nil {
		r.found = v.value
	}
	if a.kind != api.OGet {
		r.ok = w.writes(x, a, v)
	}
	if !r.ok {
		w.ends(x, api.SAborted)
	}
	return r
}

// visible finds the one version that a transaction sees, and tells on how many others that hangs.
func (w *world) visible(x *txn, key int) (found *version, on int) {
	for _, v := range w.keys[key] {
		seen, hangs := see.See(v.begin, v.end, x.id, x.begin, w.table.Get)
		if seen == api.VAgain || seen == api.VYes && found != nil {
			w.t.Errorf("%d sees %d of %v", x.id, seen, *v)
		}
		if seen == api.VYes {
			found = v
		}
		on += len(hangs)
	}
	return found, on
}

// writes is false if somebody else was first. To delete what is not there is nothing to write.
func (w *world) writes(x *txn, a act, v *version) bool {
	me, ever := x.word(), word.Forever()
	switch {
	case v == nil && a.kind == api.ODelete:
		return true
	case v == nil && !may.First(w.begins(a.key), x.id, x.begin, w.table.Get):
		return false
	case v != nil:
		if ok, _ := may.Write(v.end, x.id, w.table.Get); ok != api.VYes {
			return false
		}
		v.end = me
	}
	if a.kind != api.ODelete {
		w.last++
		w.keys[a.key] = slices.Insert(w.keys[a.key], 0, &version{w.last, me, ever})
	}
	return true
}

func (w *world) begins(key int) []uint64 {
	var l []uint64
	for _, v := range w.keys[key] {
		l = append(l, v.begin)
	}
	return l
}

// settles replaces one word of a transaction that has ended, or tells that there is none any more. An end word stays until the begin word is a time, so that no version is over before it is known when it was made.
func (w *world) settles(x *txn) {
	if x.settled {
		return
	}
	end := word.Forever()
	if x.state == api.SCommitted {
		got, _ := w.table.Get(x.id)
		end = got.End
	}
	for key, l := range w.keys {
		for i, v := range l {
			switch {
			case v.begin == x.word() && x.state == api.SAborted:
				w.keys[key] = slices.Delete(slices.Clone(l), i, i+1)
				return
			case v.begin == x.word():
				v.begin = end
				return
			case v.end == x.word() && word.Read(v.begin).Kind == api.WTime:
				v.end = end
				return
			case v.end == x.word():
				return
			}
		}
	}
	w.turns(x, api.SDone)
	x.settled = true
}

// sweeps takes out all that is garbage now, and holds 17.2 of it.
func (w *world) sweeps() {
	low := w.marks.Low(w.now)
	if oldest := w.table.Oldest(w.now); low != oldest {
		w.t.Errorf("Low(%d) = %d, and the oldest active transaction began at %d", w.now, low, oldest)
	}
	for key, l := range w.keys {
		w.keys[key] = slices.DeleteFunc(slices.Clone(l), func(v *version) bool {
			if !Garbage(v.begin, v.end, low) {
				if word.Before(v.end, w.now+1) {
					w.kept++
				}
				return false
			}
			w.gone++
			w.unseen(*v)
			return true
		})
	}
}

// unseen holds that nobody sees a version who is active or begins now.
func (w *world) unseen(v version) {
	for _, x := range append(w.txns, &txn{id: 999, begin: w.now, state: api.SActive}) {
		if x.state != api.SActive && x.state != api.SPrep {
			continue
		}
		if seen, _ := see.See(v.begin, v.end, x.id, x.begin, w.table.Get); seen == api.VYes {
			w.t.Errorf("%d, which began at %d, sees %v, which is swept", x.id, x.begin, v)
		}
	}
}

// settled tells whether all transactions have ended and left no word.
func (w *world) settled() bool {
	return !slices.ContainsFunc(w.txns, func(x *txn) bool { return !x.settled })
}

// pairs are the values that exist now.
func (w *world) pairs() (l []api.Pair) {
	for key := range w.keys {
		for _, v := range w.keys[key] {
			if v.end == word.Forever() {
				l = append(l, api.Pair{Key: key, Value: v.value})
			}
		}
	}
	return l
}

func (w *world) versions() int {
	n := 0
	for _, l := range w.keys {
		n += len(l)
	}
	return n
}

// twins has the same transactions make the same steps in a world that is swept and in one that is not, and returns the former. pick tells which transaction is next, and whether there is a sweep ahead of it.
func twins(t *testing.T, scripts []txn, pick func() (int, bool)) *world {
	t.Helper()
	swept, plain := inWorld(t, scripts), inWorld(t, scripts)
	for steps := 0; !swept.settled() || !plain.settled(); steps++ {
		i, sweep := pick()
		if sweep {
			swept.sweeps()
		}
		a, b := swept.step(swept.txns[i]), plain.step(plain.txns[i])
		if a != b {
			t.Fatalf("step %d of %d: %v in a world that is swept, %v in one that is not", steps, i, a, b)
		}
		if steps > 100000 {
			t.Fatal("no end")
		}
	}
	swept.sweeps()
	if !slices.Equal(swept.pairs(), plain.pairs()) {
		t.Fatalf("%v in a world that is swept, %v in one that is not", swept.pairs(), plain.pairs())
	}
	if swept.versions() != len(swept.pairs()) || swept.marks.Len() != 0 {
		t.Fatalf("%d versions of %d keys are left, and %d times", swept.versions(), len(swept.pairs()), swept.marks.Len())
	}
	return swept
}

// W7: runs of many transactions in drawn orders: sweeps are not to be seen, and in the end there are as many versions as there are keys.
func TestSweepsAreNotSeen(t *testing.T) {
	gone, kept := 0, 0
	for run := range 2000 {
		d := draws(run)
		var scripts []txn
		for range 40 {
			x := txn{quits: d.below(6) == 0}
			for range 1 + d.below(3) {
				x.acts = append(x.acts, act{[]int{api.OGet, api.OGet, api.OUpdate, api.OUpdate, api.ODelete}[d.below(5)], d.below(few)})
			}
			scripts = append(scripts, x)
		}
		often, wide, first := 1+d.below(8), 2+d.below(4), 0
		steps := 0
		swept := twins(t, scripts, func() (int, bool) {
			steps++
			if steps%(wide*2) == 0 && first < len(scripts)-1 {
				first++
			}
			i := min(first+d.below(wide), len(scripts)-1)
			if steps%11 == 0 {
				i = d.below(first + 1)
			}
			return i, d.below(often) == 0
		})
		gone += swept.gone
		kept += swept.kept
	}
	if gone < 10000 || kept < 10000 {
		t.Errorf("%d versions were swept, and %d times one that was over was kept", gone, kept)
	}
}

// W7: three transactions in every order of their steps, with a sweep ahead of each.
func TestEveryOrder(t *testing.T) {
	const write = api.OUpdate
	for _, scripts := range [][]txn{
		{{acts: []act{{write, 0}}}, {acts: []act{{write, 0}}}, {acts: []act{{api.OGet, 0}, {api.OGet, 0}}}},
		{{acts: []act{{write, 0}}}, {acts: []act{{api.ODelete, 0}}}, {acts: []act{{api.OGet, 0}, {write, 0}}}},
		{{acts: []act{{write, 0}}, quits: true}, {acts: []act{{api.ODelete, 0}}}, {acts: []act{{api.OGet, 0}, {api.OGet, 0}}}},
	} {
		orders := 0
		var order []int
		var left []int
		for _, x := range scripts {
			left = append(left, len(x.acts)+3) // a begin, and two steps to the outcome; words are replaced after all
		}
		var next func()
		next = func() {
			done := true
			for i := range left {
				if left[i] == 0 {
					continue
				}
				done = false
				left[i]--
				order = append(order, i)
				next()
				order = order[:len(order)-1]
				left[i]++
			}
			if done {
				orders++
				runOrder(t, scripts, order)
			}
		}
		next()
		if orders < 90000 {
			t.Errorf("%d orders", orders)
		}
	}
}

// runOrder has transactions make their steps in an order, and then in turn until they have settled. A write comes ahead of all, so that there is something to end.
func runOrder(t *testing.T, scripts []txn, order []int) {
	t.Helper()
	all := append(slices.Clone(scripts), txn{acts: []act{{api.OUpdate, 0}}})
	steps := 0
	twins(t, all, func() (int, bool) {
		steps++
		switch n := steps - 7; {
		case n < 0:
			return len(scripts), false
		case n < len(order):
			return order[n], true
		}
		return steps % len(scripts), true
	})
}
