package tale

import (
	"fmt"
	"math"
	"regexp"
	"slices"
	"strings"

	"vinculum/api"
)

// The plain functions say what the chapter says, sentence by sentence: each looks through the whole list again.

// has finds the events of a kind that a list has of a transaction.
func has(l []api.Event, kind, id int) []api.Event {
	var found []api.Event
	for _, v := range l {
		if v.Kind == kind && v.T == id {
			found = append(found, v)
		}
	}
	return found
}

// times lists the begin times and end times.
func times(l []api.Event) []uint64 {
	var n []uint64
	for _, v := range l {
		if v.Kind == 1 || v.Kind == 3 {
			n = append(n, v.N)
		}
	}
	return n
}

func isAfterAll(n uint64, l []api.Event) bool {
	return !slices.ContainsFunc(times(l), func(m uint64) bool { return m >= n })
}

func countBegun(l []api.Event) int {
	n := 0
	for _, v := range l {
		if v.Kind == 1 {
			n++
		}
	}
	return n
}

func isOpen(l []api.Event, id int) bool {
	return len(has(l, 1, id)) > 0 && len(has(l, 5, id)) == 0 && len(has(l, 6, id)) == 0
}

// possible reports whether v may follow l, which is possible.
func possible(l []api.Event, v api.Event) bool {
	prep := has(l, 3, v.T)
	switch v.Kind {
	case 1:
		return v.T == countBegun(l)+1 && v.N > 0 && isAfterAll(v.N, l)
	case 2:
		return isOpen(l, v.T) && len(prep) == 0
	case 3:
		return isOpen(l, v.T) && len(prep) == 0 && isAfterAll(v.N, l)
	case 4:
		if v.N > math.MaxInt || v.T == int(v.N) || !isOpen(l, v.T) {
			return false
		}
		to := int(v.N)
		if len(has(l, 1, to)) == 0 || len(has(l, 6, to)) > 0 {
			return false
		}
		other := has(l, 3, to)
		return len(prep) == 0 || len(other) == 0 || prep[0].N > other[0].N
	case 5:
		for _, b := range has(l, 4, v.T) {
			if len(has(l, 5, int(b.N))) == 0 {
				return false
			}
		}
		return isOpen(l, v.T) && len(prep) > 0
	case 6:
		return isOpen(l, v.T)
	}
	return false
}

// plainOk is Ok.
func plainOk(l []api.Event) (bool, int) {
	if len(l) > 20000 {
		return false, 20000
	}
	for i, v := range l {
		if !possible(l[:i], v) {
			return false, i
		}
	}
	return true, -1
}

// plainDeals is Deals of a list that is possible.
func plainDeals(l []api.Event) []api.Deal {
	var deals []api.Deal
	for id := 1; id <= countBegun(l); id++ {
		b := has(l, 1, id)[0]
		d := api.Deal{ID: id, Level: b.Op.Value, Begin: b.N, State: 1}
		for _, v := range has(l, 3, id) {
			d.End = v.N
		}
		if len(has(l, 5, id)) > 0 {
			d.State = 3
		}
		if len(has(l, 6, id)) > 0 {
			d.State = 4
		}
		for _, v := range has(l, 2, id) {
			d.Ops = append(d.Ops, api.Call{Op: v.Op, Result: v.Result})
		}
		deals = append(deals, d)
	}
	return deals
}

// plainText is Text.
func plainText(l []api.Event) string {
	s := ""
	for _, v := range l {
		switch v.Kind {
		case 1:
			s += fmt.Sprintf("begin %d %d %d\n", v.T, v.N, v.Op.Value)
		case 2:
			s += fmt.Sprintf("op %d %d %d %d %d %d %d", v.T, v.Op.Kind, v.Op.Key, v.Op.Hi, v.Op.Value, int(v.Result.E), v.Result.Value)
			for _, p := range v.Result.Pairs {
				s += fmt.Sprintf(" %d=%d", p.Key, p.Value)
			}
			s += "\n"
		case 3:
			s += fmt.Sprintf("prep %d %d\n", v.T, v.N)
		case 4:
			s += fmt.Sprintf("bond %d %d\n", v.T, v.N)
		case 5:
			s += fmt.Sprintf("done %d\n", v.T)
		case 6:
			s += fmt.Sprintf("gone %d %d\n", v.T, v.Result.Reason)
		}
	}
	return s
}

var (
	isText = regexp.MustCompile(`^(begin( N){3}\n|op( N){7}( N=N)*\n|prep( N){2}\n|bond( N){2}\n|done N\n|gone( N){2}\n)*$`)
	number = regexp.MustCompile(`[0-9]+`)
	proper = regexp.MustCompile(`^(0|[1-9][0-9]{0,12})$`)
)

// plainParse is Parse: it holds the form of the whole text ahead of the numbers.
func plainParse(s string) ([]api.Event, api.Errno) {
	if len(s) > 1000000 {
		return nil, 2
	}
	digits := number.FindAllString(s, -1)
	if strings.Contains(s, "N") || !isText.MatchString(number.ReplaceAllString(s, "N")) {
		return nil, 3
	}
	var n []int
	for _, w := range digits {
		var v int
		if !proper.MatchString(w) {
			return nil, 3
		}
		if fmt.Sscan(w, &v); v > 1<<40 {
			return nil, 3
		}
		n = append(n, v)
	}
	var l []api.Event
	for _, line := range strings.Split(strings.TrimSuffix(s, "\n"), "\n") {
		if s == "" {
			break
		}
		var v api.Event
		v.T = n[0]
		switch strings.Fields(line)[0] {
		case "begin":
			v.Kind, v.N, v.Op.Value = 1, uint64(n[1]), n[2]
		case "op":
			v.Kind = 2
			v.Op = api.Op{Kind: n[1], Key: n[2], Hi: n[3], Value: n[4]}
			v.Result.E, v.Result.Value = api.Errno(n[5]), n[6]
			for i := range strings.Count(line, "=") {
				v.Result.Pairs = append(v.Result.Pairs, api.Pair{Key: n[7+2*i], Value: n[8+2*i]})
			}
		case "prep":
			v.Kind, v.N = 3, uint64(n[1])
		case "bond":
			v.Kind, v.N = 4, uint64(n[1])
		case "done":
			v.Kind = 5
		case "gone":
			v.Kind, v.Result.Reason = 6, n[1]
		}
		n = n[len(number.FindAllString(line, -1)):]
		l = append(l, v)
	}
	return l, 0
}

func sameResult(a, b api.Result) bool {
	return a.E == b.E && a.Value == b.Value && a.Over == b.Over && a.Reason == b.Reason && slices.Equal(a.Pairs, b.Pairs)
}

func sameEvent(a, b api.Event) bool {
	return a.Kind == b.Kind && a.T == b.T && a.N == b.N && a.Op == b.Op && sameResult(a.Result, b.Result)
}

func sameEvents(a, b []api.Event) bool {
	return slices.EqualFunc(a, b, sameEvent)
}

func sameDeals(a, b []api.Deal) bool {
	return slices.EqualFunc(a, b, func(a, b api.Deal) bool {
		return a.ID == b.ID && a.Level == b.Level && a.State == b.State && a.Begin == b.Begin && a.End == b.End &&
			slices.EqualFunc(a.Ops, b.Ops, func(a, b api.Call) bool { return a.Op == b.Op && sameResult(a.Result, b.Result) })
	})
}

// copied is a list that shares nothing with l.
func copied(l []api.Event) []api.Event {
	c := slices.Clone(l)
	for i := range c {
		c[i].Result.Pairs = slices.Clone(c[i].Result.Pairs)
	}
	return c
}

func begin(id int, n uint64, level int) api.Event {
	return api.Event{Kind: 1, T: id, N: n, Op: api.Op{Value: level}}
}

func op(id int, o api.Op, r api.Result) api.Event {
	return api.Event{Kind: 2, T: id, Op: o, Result: r}
}

func prep(id int, n uint64) api.Event { return api.Event{Kind: 3, T: id, N: n} }

func bonded(id, to int) api.Event { return api.Event{Kind: 4, T: id, N: uint64(to)} }

func done(id int) api.Event { return api.Event{Kind: 5, T: id} }

func gone(id, reason int) api.Event {
	return api.Event{Kind: 6, T: id, Result: api.Result{Reason: reason}}
}

// get is an operation of which nothing matters.
func get(id int) api.Event { return op(id, api.Op{Kind: 1, Key: 5}, api.Result{Value: 7}) }

// draws are drawn numbers, the same in each run.
type draws uint64

func (d *draws) next() uint64 {
	*d += 0x9e3779b97f4a7c15
	n := uint64(*d)
	n = (n ^ n>>30) * 0xbf58476d1ce4e5b9
	n = (n ^ n>>27) * 0x94d049bb133111eb
	return n ^ n>>31
}

func (d *draws) below(n int) int { return int(d.next() % uint64(n)) }

// edges are numbers at and beside all bounds of the chapter.
func edges() []int {
	l := []int{math.MinInt, math.MaxInt}
	for _, n := range []int{-1 << 40, -1 << 32, -1, 0, 3, 6, 9, 10, 64, 20000, 65535, 1000000, 1 << 31, 1 << 32, 1 << 40, 1e12, 1e13} {
		l = append(l, n-1, n, n+1)
	}
	slices.Sort(l)
	return slices.Compact(l)
}

// anyEvent draws an event with numbers in all fields, which are from the list.
func anyEvent(d *draws, kind int, from []int) api.Event {
	n := func() int { return from[d.below(len(from))] }
	v := api.Event{Kind: kind, T: n(), N: uint64(n()), Op: api.Op{Kind: n(), Key: n(), Hi: n(), Value: n()}}
	v.Result = api.Result{E: api.Errno(n()), Value: n(), Over: n(), Reason: n()}
	for range d.below(4) {
		v.Result.Pairs = append(v.Result.Pairs, api.Pair{Key: n(), Value: n()})
	}
	return v
}
