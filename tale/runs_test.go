package tale

import (
	"slices"
	"sync"
	"testing"

	"vinculum/api"
)

// lastTime is the greatest time of a list that is possible.
func lastTime(l []api.Event) uint64 {
	n := times(l)
	if len(n) == 0 {
		return 0
	}
	return n[len(n)-1]
}

// followers are events that may come next of the transactions 1 to most, or may not.
func followers(l []api.Event, most int) []api.Event {
	var next []api.Event
	last := lastTime(l)
	for id := 1; id <= most; id++ {
		next = append(next, get(id), done(id), gone(id, 1), begin(id, last, 1), begin(id, last+1, 1), prep(id, last), prep(id, last+2))
		for to := 0; to <= most; to++ {
			next = append(next, bonded(id, to))
		}
	}
	return next
}

// extends holds each list that continues one that is possible, by one event more and then on.
func extends(t *testing.T, l []api.Event, most, more int, visit func([]api.Event)) int {
	n := 1
	for _, v := range followers(l, most) {
		c := append(l[:len(l):len(l)], v)
		want := possible(l, v)
		ok, at := Ok(c)
		if ok != want || ok && at != -1 || !ok && at != len(l) {
			t.Fatalf("Ok = %v, %d, want %v: %v", ok, at, want, c)
		}
		if !ok {
			continue
		}
		visit(c)
		if more > 1 {
			n += extends(t, c, most, more-1, visit)
		}
	}
	return n
}

// Promises 20.1, 20.2: every short history of two transactions, and of three that have begun.
func TestEveryHistory(t *testing.T) {
	two := []api.Event{begin(1, 1, 1), begin(2, 3, 2)}
	for _, x := range []struct {
		l                []api.Event
		most, more, want int
	}{
		{nil, 2, 7, 2000},
		{two, 2, 6, 5000},
		{append(two[:2:2], begin(3, 4, 3)), 3, 5, 20000},
	} {
		n := extends(t, x.l, x.most, x.more, func(l []api.Event) {
			if d := Deals(l); !sameDeals(d, plainDeals(l)) {
				t.Fatalf("Deals = %v: %v", d, l)
			}
		})
		if n < x.want {
			t.Errorf("%d histories", n)
		}
	}
}

// drawnNext draws an event that is mostly possible after l, of some of the transactions.
func drawnNext(d *draws, l []api.Event, begun int) api.Event {
	last := lastTime(l[max(0, len(l)-40):])
	id, to := max(1, begun-d.below(8)), max(1, begun-d.below(12))
	switch d.below(12) {
	case 0, 1:
		return begin(begun+1, last+uint64(1+d.below(3)), d.below(5))
	case 2, 3:
		return prep(id, last+uint64(1+d.below(3)))
	case 4, 5:
		return bonded(id, to)
	case 6, 7, 8:
		return done(id)
	case 9:
		return gone(id, d.below(7))
	}
	return op(id, api.Op{Kind: d.below(8), Key: d.below(70)}, api.Result{Value: d.below(9), Pairs: make([]api.Pair, d.below(3))})
}

// drawnHistory draws a possible history, whose events are possible by the plain rules.
func drawnHistory(d *draws, length int) []api.Event {
	var l []api.Event
	begun := 0
	for range 100 * length {
		v := drawnNext(d, l, begun)
		if len(l) == length {
			break
		}
		if possible(l, v) {
			l = append(l, v)
			if v.Kind == 1 {
				begun++
			}
		}
	}
	return l
}

// Promises 20.1, 20.2: long histories, and what becomes of them where one event is another one, comes elsewhere or is left out.
func TestDrawnHistories(t *testing.T) {
	d := draws(2)
	good, bad := 0, 0
	for range 150 {
		l := drawnHistory(&d, 20+d.below(100))
		if !holds(t, l) {
			t.Fatalf("%v is not possible", l)
		}
		for range 30 {
			c := slices.Clone(l)
			i, j := d.below(len(c)), d.below(len(c))
			switch d.below(4) {
			case 0:
				c[i], c[j] = c[j], c[i]
			case 1:
				c = slices.Delete(c, i, i+1)
			case 2:
				c = slices.Insert(c, i, c[j])
			case 3:
				c[i] = drawnNext(&d, c[:i], countBegun(c[:i]))
			}
			if holds(t, c) {
				good++
			} else {
				bad++
			}
			if t.Failed() {
				t.FailNow()
			}
		}
	}
	if good < 300 || bad < 300 {
		t.Errorf("%d were possible, %d were not", good, bad)
	}
}

// Section Ways: of all that end a transaction, the first one counts, and is told so.
func TestPublishedOnce(t *testing.T) {
	for _, first := range []int{api.SCommitted, api.SAborted} {
		x := &txn{state: api.SActive}
		for i, state := range []int{first, api.SAborted, api.SCommitted, first, api.SActive} {
			if x.publish(state) != (i == 0) || x.state != first {
				t.Errorf("end %d of one that has ended by %d: now it is %d", state, first, x.state)
			}
		}
	}
}

// Section Ways: nor do sessions that end it side by side publish two ends.
func TestPublishedOnceSideBySide(t *testing.T) {
	for range 200 {
		x := &txn{state: api.SActive}
		var firsts [8]bool
		var all sync.WaitGroup
		for i := range firsts {
			all.Add(1)
			go func() {
				defer all.Done()
				firsts[i] = x.publish(10 + i)
			}()
		}
		all.Wait()
		n := 0
		for i, first := range firsts {
			if first {
				n++
				if x.state != 10+i {
					t.Errorf("%d was first, but the state is %d", 10+i, x.state)
				}
			}
		}
		if n != 1 {
			t.Errorf("%d were first", n)
		}
	}
}

// Promise 20.4, rule 6: asking again, or in between, changes no answer.
func TestAskedAgain(t *testing.T) {
	d := draws(3)
	l := drawnHistory(&d, 200)
	deals, bonds, text := Deals(l), Bonds(l), Text(l)
	for i := range l {
		Ok(l[:i])
		Deals(l[:i])
	}
	if ok, at := Ok(l); !ok || at != -1 || !sameDeals(deals, Deals(l)) || !slices.Equal(bonds, Bonds(l)) || text != Text(l) {
		t.Error("a second answer is another one")
	}
}
