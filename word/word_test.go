package word

import (
	"math"
	"testing"

	"vinculum/api"
)

// oddWords are words at and beside every border of the encoding: each power of two with its neighbours, and the borders of the transactions.
func oddWords() []uint64 {
	l := []uint64{0, math.MaxUint64, 1<<62 + 65534, 1<<62 + 65535, 1<<62 + 65536, 1<<61 + 1<<62, 1<<63 + 1<<62 + 1}
	for i := range 64 {
		p := uint64(1) << i
		l = append(l, p-1, p, p+1)
	}
	return l
}

// oddInts are numbers at and beside the borders of ids, slots and tags, and of int itself.
func oddInts() []int {
	return []int{math.MinInt, math.MinInt + 1, math.MinInt32, -65536, -65535, -2, -1, 0, 1, 2, 65534, 65535, 65536, 65537, math.MaxInt32, math.MaxInt - 1, math.MaxInt}
}

// Promise 1.1: Time.
func TestTime(t *testing.T) {
	for _, n := range []uint64{0, 1, 2, 999, 65536, 1<<40 - 1, 1 << 40} {
		if w, ok := Time(n); !ok || w != n {
			t.Errorf("Time(%d) = %d, %v", n, w, ok)
		}
	}
	for _, n := range []uint64{1<<40 + 1, 1 << 41, 1 << 61, 1<<62 + 1, 1 << 63, math.MaxUint64} {
		if w, ok := Time(n); ok || w != 0 {
			t.Errorf("Time(%d) = %d, %v", n, w, ok)
		}
	}
}

// Promise 1.1: Txn, for every id.
func TestTxn(t *testing.T) {
	for id := 1; id <= 65535; id++ {
		if w, ok := Txn(id); !ok || w != 4611686018427387904+uint64(id) {
			t.Fatalf("Txn(%d) = %d, %v", id, w, ok)
		}
	}
	for _, id := range []int{math.MinInt, math.MinInt32, -65535, -2, -1, 0, 65536, 65537, 131072, math.MaxInt32, math.MaxInt} {
		if w, ok := Txn(id); ok || w != 0 {
			t.Errorf("Txn(%d) = %d, %v", id, w, ok)
		}
	}
}

// Promise 1.1: Forever, and the example of the chapter.
func TestForever(t *testing.T) {
	if w := Forever(); w != 2305843009213693952 {
		t.Errorf("Forever() = %d", w)
	}
	if s := Read(Forever()); s != (api.Stamp{Kind: api.WEver, N: 0}) {
		t.Errorf("Read(Forever()) = %v", s)
	}
}

// Promise 1.1: Read of stamps at the borders, and of words that are no stamps.
func TestRead(t *testing.T) {
	for _, x := range []struct {
		w    uint64
		want api.Stamp
	}{
		{0, api.Stamp{Kind: api.WTime, N: 0}},
		{1, api.Stamp{Kind: api.WTime, N: 1}},
		{1<<40 - 1, api.Stamp{Kind: api.WTime, N: 1<<40 - 1}},
		{1 << 40, api.Stamp{Kind: api.WTime, N: 1 << 40}},
		{1<<40 + 1, api.Stamp{}},
		{1<<61 - 1, api.Stamp{}},
		{1 << 61, api.Stamp{Kind: api.WEver}},
		{1<<61 + 1, api.Stamp{}},
		{1<<62 - 1, api.Stamp{}},
		{1 << 62, api.Stamp{}},
		{1<<62 + 1, api.Stamp{Kind: api.WTxn, N: 1}},
		{1<<62 + 65535, api.Stamp{Kind: api.WTxn, N: 65535}},
		{1<<62 + 65536, api.Stamp{}},
		{1<<62 + 1<<61, api.Stamp{}},
		{1<<62 + 1<<61 + 1, api.Stamp{}},
		{1 << 63, api.Stamp{}},
		{1<<63 + 1, api.Stamp{}},
		{1<<63 + 1<<62 + 1, api.Stamp{}},
		{math.MaxUint64, api.Stamp{}},
	} {
		if s := Read(x.w); s != x.want {
			t.Errorf("Read(%d) = %v, want %v", x.w, s, x.want)
		}
	}
}

// Promise 1.1: Of is that of Time, Txn or Forever.
func TestOf(t *testing.T) {
	for _, n := range oddWords() {
		w, ok := Of(api.Stamp{Kind: api.WTime, N: n})
		if wantW, want := Time(n); w != wantW || ok != want {
			t.Errorf("Of(time %d) = %d, %v", n, w, ok)
		}
		w, ok = Of(api.Stamp{Kind: api.WTxn, N: n})
		if want := n >= 1 && n <= 65535; ok != want || want && w != 1<<62+n || !want && w != 0 {
			t.Errorf("Of(transaction %d) = %d, %v", n, w, ok)
		}
		w, ok = Of(api.Stamp{Kind: api.WEver, N: n})
		if want := n == 0; ok != want || want && w != 1<<61 || !want && w != 0 {
			t.Errorf("Of(ever %d) = %d, %v", n, w, ok)
		}
	}
}

// Promise 1.1: Of with a kind that is none of the three.
func TestOfUnknownKind(t *testing.T) {
	for _, kind := range []int{math.MinInt, -3, -1, 0, 4, 5, 256 + 1, math.MaxInt} {
		for _, n := range []uint64{0, 1, 1 << 40, math.MaxUint64} {
			if w, ok := Of(api.Stamp{Kind: kind, N: n}); ok || w != 0 {
				t.Errorf("Of(kind %d, %d) = %d, %v", kind, n, w, ok)
			}
		}
	}
}

// Promise 1.1: Before, against its words by way of Read.
func TestBefore(t *testing.T) {
	for _, a := range oddWords() {
		for _, b := range oddWords() {
			x, y := Read(a), Read(b)
			want := x.Kind == api.WTime && (y.Kind == api.WEver || y.Kind == api.WTime && y.N > x.N)
			if got := Before(a, b); got != want {
				t.Errorf("Before(%d, %d) = %v", a, b, got)
			}
		}
	}
	for _, x := range []struct {
		a, b uint64
		want bool
	}{
		{0, 0, false}, {0, 1, true}, {1, 0, false}, {7, 7, false},
		{1<<40 - 1, 1 << 40, true}, {1 << 40, 1 << 40, false}, {1 << 40, 1<<40 + 1, false},
		{0, 1 << 61, true}, {1 << 40, 1 << 61, true}, {1<<40 + 1, 1 << 61, false}, {1 << 61, 1 << 61, false},
		{1 << 61, 3, false}, {3, 1<<62 + 1, false}, {1<<62 + 1, 1<<62 + 2, false}, {1<<62 + 1, 1 << 61, false},
	} {
		if got := Before(x.a, x.b); got != x.want {
			t.Errorf("Before(%d, %d) = %v", x.a, x.b, got)
		}
	}
}

// Promise 1.2: Link.
func TestLink(t *testing.T) {
	for _, slot := range oddInts() {
		for _, tag := range oddInts() {
			w, ok := Link(slot, tag)
			if slot < 0 || slot > 65535 || tag < 0 || tag > 65535 {
				if ok || w != 0 {
					t.Errorf("Link(%d, %d) = %d, %v", slot, tag, w, ok)
				}
				continue
			}
			if !ok || w != 131072*uint64(tag)+uint64(slot)+1 {
				t.Errorf("Link(%d, %d) = %d, %v", slot, tag, w, ok)
			}
		}
	}
}

// Promise 1.2: Unlink of words that no Link has made.
func TestUnlink(t *testing.T) {
	for _, x := range []struct {
		w         uint64
		slot, tag int
		marked    bool
	}{
		{0, -1, 0, false},
		{1, 0, 0, false},
		{1 << 16, 65535, 0, false},
		{1<<17 - 1, 131070, 0, false},
		{1 << 17, -1, 1, false},
		{65535 << 17, -1, 65535, false},
		{1<<33 - 1, 131070, 65535, false},
		{1 << 33, -1, 0, false},
		{1 << 39, -1, 0, false},
		{1 << 40, -1, 0, true},
		{1<<40 | 2<<17 | 4, 3, 2, true},
		{1 << 41, -1, 0, false},
		{1 << 61, -1, 0, false},
		{1<<62 + 5, 4, 0, false},
		{1 << 63, -1, 0, false},
		{math.MaxUint64, 131070, 65535, true},
		{math.MaxUint64 &^ (1 << 40), 131070, 65535, false},
	} {
		slot, tag, marked := Unlink(x.w)
		if slot != x.slot || tag != x.tag || marked != x.marked {
			t.Errorf("Unlink(%d) = %d, %d, %v", x.w, slot, tag, marked)
		}
	}
}

// Promise 1.2: Unlink ignores every bit that is not of the slot, the tag or the mark.
func TestUnlinkIgnoresOtherBits(t *testing.T) {
	w, _ := Link(40000, 50000)
	for i := 33; i < 64; i++ {
		slot, tag, marked := Unlink(w | 1<<i)
		if slot != 40000 || tag != 50000 || marked != (i == 40) {
			t.Errorf("bit %d: %d, %d, %v", i, slot, tag, marked)
		}
	}
}

// Promise 1.2: Mark and Clear touch bit 40 and nothing else.
func TestMarkAndClear(t *testing.T) {
	const bit = 1099511627776
	for _, w := range oddWords() {
		m, c := Mark(w), Clear(w)
		if m&bit != bit || m&^bit != w&^bit {
			t.Errorf("Mark(%d) = %d", w, m)
		}
		if c&bit != 0 || c != w&^bit {
			t.Errorf("Clear(%d) = %d", w, c)
		}
		if Mark(m) != m || Clear(c) != c || Clear(m) != c || Mark(c) != m {
			t.Errorf("marked and cleared again: %d", w)
		}
	}
}

// Promise 1.3: Read(Of(s)) is s, and a word that Read knows is that of its stamp.
func TestStampsComeBack(t *testing.T) {
	for id := uint64(1); id <= 65535; id++ {
		s := api.Stamp{Kind: api.WTxn, N: id}
		if w, ok := Of(s); !ok || Read(w) != s {
			t.Fatalf("%v: %d, %v", s, w, ok)
		}
	}
	for _, n := range oddWords() {
		s := api.Stamp{Kind: api.WTime, N: n}
		if w, ok := Of(s); ok && Read(w) != s {
			t.Errorf("%v: %d", s, w)
		}
	}
	if w, ok := Of(api.Stamp{Kind: api.WEver}); !ok || Read(w) != (api.Stamp{Kind: api.WEver}) {
		t.Errorf("ever: %d, %v", w, ok)
	}
	for _, w := range oddWords() {
		s := Read(w)
		back, ok := Of(s)
		if s.Kind == 0 && (ok || back != 0) || s.Kind != 0 && (!ok || back != w) {
			t.Errorf("Of(Read(%d)) = %d, %v", w, back, ok)
		}
	}
}

// Promise 1.3: Unlink(Link(slot, tag)) is slot and tag, unmarked, and so it is behind a mark.
func TestLinksComeBack(t *testing.T) {
	check := func(slot, tag int) {
		t.Helper()
		w, ok := Link(slot, tag)
		if !ok || w == 0 {
			t.Fatalf("Link(%d, %d) = %d, %v", slot, tag, w, ok)
		}
		if s, g, m := Unlink(w); s != slot || g != tag || m {
			t.Fatalf("Unlink(Link(%d, %d)) = %d, %d, %v", slot, tag, s, g, m)
		}
		if s, g, m := Unlink(Mark(w)); s != slot || g != tag || !m {
			t.Fatalf("marked: Unlink(Link(%d, %d)) = %d, %d, %v", slot, tag, s, g, m)
		}
		if Clear(w) != w || Clear(Mark(w)) != w {
			t.Fatalf("Clear(%d)", w)
		}
	}
	for n := range 65536 {
		for _, m := range []int{0, 1, 255, 65534, 65535} {
			check(n, m)
			check(m, n)
		}
	}
}

// Promise 1.4: no call panics, whatever it is given.
func TestNoCallPanics(t *testing.T) {
	defer func() {
		if r := recover(); r != nil {
			t.Errorf("panic: %v", r)
		}
	}()
	Forever()
	for _, a := range oddWords() {
		Time(a)
		Read(a)
		Unlink(a)
		Mark(a)
		Clear(a)
		for _, b := range oddWords() {
			Before(a, b)
		}
		for _, n := range oddInts() {
			Of(api.Stamp{Kind: n, N: a})
		}
		for kind := api.WTime - 1; kind <= api.WEver+1; kind++ {
			Of(api.Stamp{Kind: kind, N: a})
		}
	}
	for _, n := range oddInts() {
		Txn(n)
		for _, m := range oddInts() {
			Link(n, m)
		}
	}
}
