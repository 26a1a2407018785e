package model

import (
	"cmp"
	"math"
	"slices"
	"testing"

	"vinculum/api"
)

// deal is a transaction with all of its calls. The time at which one that was aborted was to end is not kept.
type deal struct {
	id, session, level, state int
	begin, end                uint64
	calls                     []api.Call
}

// wrote reports whether a call wrote a key.
func wrote(c api.Call, key int) bool {
	return c.Result.E == 0 && c.Op.Kind >= 2 && c.Op.Kind <= 4 && c.Op.Key == key
}

// writes tells the calls that wrote a key, in order.
func (d *deal) writes(key int) []api.Op {
	var l []api.Op
	for _, c := range d.calls {
		if wrote(c, key) {
			l = append(l, c.Op)
		}
	}
	return l
}

// thing is a version: the transaction that made it, and its key, of which that has no other one.
type thing struct{ id, key int }

// plain is a Model by the chapter's sentences: all transactions that there ever were with all of their calls, from which everything else is worked out anew.
type plain struct {
	conf  api.Conf
	clock uint64
	deals []*deal
	gone  map[thing]bool
}

func (p *plain) active(s int) *deal {
	for _, d := range p.deals {
		if d.session == s && d.state == 1 {
			return d
		}
	}
	return nil
}

// done tells those that have committed by a time, by their end times.
func (p *plain) done(at uint64) []*deal {
	var l []*deal
	for _, d := range p.deals {
		if d.state == 3 && d.end <= at {
			l = append(l, d)
		}
	}
	slices.SortFunc(l, func(a, b *deal) int { return cmp.Compare(a.end, b.end) })
	return l
}

// value is what a key has, and which transaction's version that is.
type value struct {
	id, n int
	there bool
}

// after tells what a key has after the calls of a transaction.
func (v value) after(d *deal, key int) value {
	for _, o := range d.writes(key) {
		if o.Kind == 4 {
			v = value{}
		} else {
			v = value{d.id, o.Value, true}
		}
	}
	return v
}

// at tells what a key has at a time.
func (p *plain) at(key int, time uint64) value {
	var v value
	for _, d := range p.done(time) {
		v = v.after(d, key)
	}
	return v
}

// seen tells what a transaction sees of a key.
func (p *plain) seen(d *deal, key int) value {
	return p.at(key, d.begin).after(d, key)
}

func key(n int) bool { return n >= 0 && n <= 63 }

// possible reports whether an operation is in the table of 19.2, with the fields that it has there.
func possible(o api.Op) bool {
	var used api.Op
	ok := false
	switch o.Kind {
	case 1, 4:
		used, ok = api.Op{Kind: o.Kind, Key: o.Key}, key(o.Key)
	case 2, 3:
		used, ok = api.Op{Kind: o.Kind, Key: o.Key, Value: o.Value}, key(o.Key) && o.Value >= 0 && o.Value <= 65535
	case 5:
		used, ok = api.Op{Kind: o.Kind, Key: o.Key, Hi: o.Hi}, key(o.Key) && key(o.Hi) && o.Hi >= o.Key
	case 6, 7:
		used, ok = api.Op{Kind: o.Kind}, true
	}
	return ok && used == o
}

func (p *plain) Begin(s, level int) (int, api.Errno) {
	switch {
	case s < 0 || s > 7 || level < 1 || level > 3:
		return 0, 1
	case p.active(s) != nil:
		return 0, 9
	case len(p.deals) == 2000:
		return 0, 65
	case p.clock == p.conf.Limit:
		return 0, 16
	}
	p.clock++
	p.deals = append(p.deals, &deal{id: len(p.deals) + 1, session: s, level: level, state: 1, begin: p.clock})
	return len(p.deals), 0
}

func (p *plain) Do(s int, o api.Op) (api.Result, api.Errno) {
	if s < 0 || s > 7 {
		return api.Result{}, 1
	}
	d := p.active(s)
	if d == nil || !possible(o) {
		return api.Result{}, 9
	}
	if o.Kind < 6 && len(d.calls) == 12 {
		return api.Result{}, 65
	}
	r := p.result(d, o)
	d.calls = append(d.calls, api.Call{Op: o, Result: r})
	if r.Over != 0 {
		d.state = r.Over
	}
	return r, 0
}

func (p *plain) result(d *deal, o api.Op) api.Result {
	v := p.seen(d, o.Key)
	switch o.Kind {
	case 1:
		if !v.there {
			return api.Result{E: 11}
		}
		return api.Result{Value: v.n}
	case 2:
		if v.there {
			return api.Result{E: 12}
		}
	case 3, 4:
		if !v.there {
			return api.Result{E: 11}
		}
	case 5:
		return api.Result{Pairs: p.scan(d, o.Key, o.Hi)}
	case 6:
		return p.commit(d)
	case 7:
		return api.Result{Over: 4, Reason: 1}
	}
	return p.write(d, o)
}

func (p *plain) scan(d *deal, lo, hi int) []api.Pair {
	var l []api.Pair
	for k := lo; k <= hi; k++ {
		if v := p.seen(d, k); v.there {
			l = append(l, api.Pair{Key: k, Value: v.n})
		}
	}
	return l
}

// write answers a write that the transaction may make by what it sees.
func (p *plain) write(d *deal, o api.Op) api.Result {
	if d.writes(o.Key) == nil {
		for _, x := range p.deals {
			if x != d && x.writes(o.Key) != nil && (x.state == 1 || x.state == 3 && x.end > d.begin) {
				return api.Result{E: 14, Over: 4, Reason: 2}
			}
		}
	}
	own := slices.ContainsFunc(d.writes(o.Key), func(w api.Op) bool { return w.Kind != 4 })
	if o.Kind != 4 && !own && len(p.things()) == p.conf.Slots {
		return api.Result{E: 14, Over: 4, Reason: 5}
	}
	return api.Result{}
}

func (p *plain) commit(d *deal) api.Result {
	if p.clock == p.conf.Limit {
		return api.Result{E: 14, Over: 4, Reason: 6}
	}
	p.clock++
	for k := range 64 {
		if d.relies(k) && p.at(k, d.begin).id != p.at(k, p.clock).id {
			return api.Result{E: 14, Over: 4, Reason: 3}
		}
	}
	d.end = p.clock
	return api.Result{Over: 3}
}

// relies reports whether the level of a transaction examines a key for the sake of one of its calls.
func (d *deal) relies(k int) bool {
	written := false
	for _, c := range d.calls {
		get, failed := c.Op.Kind == 1, c.Result.E == 11 || c.Result.E == 12
		switch {
		case d.level == 3 && c.Op.Kind == 5 && k >= c.Op.Key && k <= c.Op.Hi:
			return true
		case c.Op.Kind == 5 || c.Op.Key != k || written:
		case d.level == 3 && (get || failed), d.level == 2 && get && !failed:
			return true
		}
		written = written || wrote(c, k)
	}
	return false
}

// things tells the versions that use a slot.
func (p *plain) things() []thing {
	var l []thing
	for _, d := range p.deals {
		for _, c := range d.calls {
			x := thing{d.id, c.Op.Key}
			if c.Op.Kind != 4 && wrote(c, x.key) && !p.gone[x] && !slices.Contains(l, x) {
				l = append(l, x)
			}
		}
	}
	return l
}

// times tells from when to when a version of a transaction that has committed exists; until is 0 if it has no end time. It ends with the next that commits and has written the key, since nobody else may meanwhile.
func (p *plain) times(x thing) (from, until uint64) {
	d := p.deals[x.id-1]
	if l := d.writes(x.key); l[len(l)-1].Kind == 4 {
		return d.end, d.end
	}
	for _, next := range p.done(math.MaxUint64) {
		if next.end > d.end && next.writes(x.key) != nil {
			return d.end, next.end
		}
	}
	return d.end, 0
}

// stale reports whether a version is to be collected.
func (p *plain) stale(x thing) bool {
	switch p.deals[x.id-1].state {
	case 4:
		return true
	case 1:
		return false
	}
	_, until := p.times(x)
	if until == 0 {
		return false
	}
	for _, d := range p.deals {
		if d.state == 1 && until > d.begin {
			return false
		}
	}
	return true
}

func (p *plain) Collect() int {
	n := 0
	for _, x := range p.things() {
		if p.stale(x) {
			p.gone[x] = true
			n++
		}
	}
	return n
}

func (p *plain) pairs(at uint64) []api.Pair {
	var l []api.Pair
	for _, x := range p.things() {
		d := p.deals[x.id-1]
		if d.state != 3 {
			continue
		}
		if from, until := p.times(x); from <= at && (until == 0 || until > at) {
			l = append(l, api.Pair{Key: x.key, Value: value{}.after(d, x.key).n})
		}
	}
	slices.SortFunc(l, func(a, b api.Pair) int { return cmp.Compare(a.Key, b.Key) })
	return l
}

func (p *plain) live() []int {
	var l []int
	for s := range 8 {
		if p.active(s) != nil {
			l = append(l, s)
		}
	}
	return l
}

func (p *plain) status(s int) api.Status {
	d := p.active(s)
	if d == nil {
		return api.Status{}
	}
	return api.Status{Live: true, ID: d.id, Level: d.level, State: 1, Begin: d.begin, Ops: len(d.calls)}
}

// both is a Model beside its plain one.
type both struct {
	t *testing.T
	m *Model
	p *plain
}

func start(t *testing.T, slots int, limit uint64) *both {
	t.Helper()
	c := api.Conf{Slots: slots, Limit: limit}
	m, e := New(c)
	if m == nil || e != 0 {
		t.Fatalf("New(%v) = %v, %d", c, m, e)
	}
	b := &both{t, m, &plain{conf: c, gone: map[thing]bool{}}}
	b.same()
	return b
}

// same holds all that a Model tells without being changed.
func (b *both) same() {
	b.t.Helper()
	if got, want := b.m.Used(), len(b.p.things()); got != want {
		b.t.Errorf("Used() = %d, want %d", got, want)
	}
	if got := b.m.Now(); got != b.p.clock {
		b.t.Errorf("Now() = %d, want %d", got, b.p.clock)
	}
	if got, want := b.m.Live(), b.p.live(); !slices.Equal(got, want) {
		b.t.Errorf("Live() = %v, want %v", got, want)
	}
	for s := -1; s <= 8; s++ {
		if got, want := b.m.Status(s), b.p.status(s); got != want {
			b.t.Errorf("Status(%d) = %v, want %v", s, got, want)
		}
	}
}

// exists holds what exists at each time of a list.
func (b *both) exists(times ...uint64) {
	b.t.Helper()
	for _, at := range times {
		if got, want := b.m.Pairs(at), b.p.pairs(at); !slices.Equal(got, want) {
			b.t.Errorf("Pairs(%d) = %v, want %v", at, got, want)
		}
	}
}

// always holds what exists at every time up to now, and later.
func (b *both) always() {
	b.t.Helper()
	for at := range b.p.clock + 2 {
		b.exists(at)
	}
	b.exists(1<<40, 1<<40+1, 1<<63, math.MaxUint64)
}

func (b *both) begin(s, level int) {
	b.t.Helper()
	id, e := b.p.Begin(s, level)
	if got, ge := b.m.Begin(s, level); got != id || ge != e {
		b.t.Errorf("Begin(%d, %d) = %d, %d, want %d, %d", s, level, got, ge, id, e)
	}
	b.same()
}

func sameResult(a, b api.Result) bool {
	return a.E == b.E && a.Value == b.Value && slices.Equal(a.Pairs, b.Pairs) && a.Over == b.Over && a.Reason == b.Reason
}

func (b *both) do(s int, o api.Op) api.Result {
	b.t.Helper()
	r, e := b.p.Do(s, o)
	got, ge := b.m.Do(s, o)
	if !sameResult(got, r) || ge != e {
		b.t.Errorf("Do(%d, %v) = %v, %d, want %v, %d", s, o, got, ge, r, e)
	}
	b.same()
	return got
}

func (b *both) collect() {
	b.t.Helper()
	n := b.p.Collect()
	if got := b.m.Collect(); got != n {
		b.t.Errorf("Collect() = %d, want %d", got, n)
	}
	b.same()
}

// Short forms of operations.
func get(k int) api.Op       { return api.Op{Kind: 1, Key: k} }
func insert(k, v int) api.Op { return api.Op{Kind: 2, Key: k, Value: v} }
func update(k, v int) api.Op { return api.Op{Kind: 3, Key: k, Value: v} }
func remove(k int) api.Op    { return api.Op{Kind: 4, Key: k} }
func scan(lo, hi int) api.Op { return api.Op{Kind: 5, Key: lo, Hi: hi} }
func commit() api.Op         { return api.Op{Kind: 6} }
func abort() api.Op          { return api.Op{Kind: 7} }

// whole begins a transaction, does some operations in it, and commits.
func (b *both) whole(s, level int, l ...api.Op) {
	b.t.Helper()
	b.begin(s, level)
	for _, o := range l {
		b.do(s, o)
	}
	b.do(s, commit())
}

// draws is a row of numbers that look like drawn ones, and is the same each time.
type draws uint64

func (d *draws) next() uint64 {
	*d += 0x9e3779b97f4a7c15
	n := uint64(*d)
	n = (n ^ n>>30) * 0xbf58476d1ce4e5b9
	n = (n ^ n>>27) * 0x94d049bb133111eb
	return n ^ n>>31
}

func (d *draws) below(n int) int { return int(d.next() % uint64(n)) }

// edges are numbers at and beside all bounds of the chapter.
func edges() []int {
	l := []int{math.MinInt, math.MaxInt}
	for _, n := range []int{-1 << 32, -1, 0, 3, 7, 8, 12, 63, 64, 255, 256, 65535, 65536, 1 << 16, 1 << 32, 1 << 40} {
		l = append(l, n-1, n, n+1)
	}
	slices.Sort(l)
	return slices.Compact(l)
}
