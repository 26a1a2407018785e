package tale

import (
	"math"
	"slices"
	"strings"
	"testing"

	"vinculum/api"
)

// Promise 20.2: the example of the chapter.
func TestTextExample(t *testing.T) {
	v := api.Event{Kind: api.EBegin, T: 1, N: 1, Op: api.Op{Value: api.LSnap}}
	if s := Text([]api.Event{v}); s != "begin 1 1 1\n" {
		t.Errorf("Text = %q", s)
	}
	l, e := Parse("begin 1 1 1\n")
	if e != api.OK || !sameEvents(l, []api.Event{v}) {
		t.Errorf("Parse = %v, %d", l, e)
	}
}

// Promise 20.2: the line of each kind, with its fields and no others.
func TestText(t *testing.T) {
	full := func(kind int) api.Event {
		return api.Event{Kind: kind, T: 2, N: 3, Op: api.Op{Kind: 4, Key: 5, Hi: 6, Value: 7},
			Result: api.Result{E: 8, Value: 9, Over: 10, Reason: 11, Pairs: []api.Pair{{Key: 12, Value: 13}, {Key: 12, Value: 0}}}}
	}
	lines := map[int]string{
		1: "begin 2 3 7\n", 2: "op 2 4 5 6 7 8 9 12=13 12=0\n", 3: "prep 2 3\n", 4: "bond 2 3\n", 5: "done 2\n", 6: "gone 2 11\n",
	}
	for _, kind := range edges() {
		if s := Text([]api.Event{full(kind)}); s != lines[kind] {
			t.Errorf("the line of kind %d is %q", kind, s)
		}
	}
	all, want := []api.Event{}, ""
	for _, kind := range []int{6, 0, 1, 2, -1, 2, 5, 7, 3, 4, 1} {
		all, want = append(all, full(kind)), want+lines[kind]
	}
	if s := Text(all); s != want {
		t.Errorf("Text = %q", s)
	}
	for _, l := range [][]api.Event{nil, {}, {full(0), full(7)}} {
		if s := Text(l); s != "" {
			t.Errorf("Text(%v) = %q", l, s)
		}
	}
}

// Promise 20.2: numbers that are below 0 or very great.
func TestTextNumbers(t *testing.T) {
	for _, x := range []struct {
		v    api.Event
		want string
	}{
		{begin(-1, math.MaxUint64, -2), "begin -1 18446744073709551615 -2\n"},
		{begin(math.MinInt, 1<<63, math.MaxInt), "begin -9223372036854775808 9223372036854775808 9223372036854775807\n"},
		{prep(0, 1<<63+1), "prep 0 9223372036854775809\n"},
		{api.Event{Kind: 4, T: -3, N: math.MaxUint64 - 1}, "bond -3 18446744073709551614\n"},
		{done(math.MinInt), "done -9223372036854775808\n"},
		{gone(1, -1), "gone 1 -1\n"},
		{op(-1, api.Op{Kind: -2, Key: -3, Hi: -4, Value: -5}, api.Result{E: -6, Value: -7, Pairs: []api.Pair{{Key: -8, Value: -9}}}), "op -1 -2 -3 -4 -5 -6 -7 -8=-9\n"},
	} {
		if s := Text([]api.Event{x.v}); s != x.want {
			t.Errorf("Text = %q, want %q", s, x.want)
		}
		if l, e := Parse(x.want); l != nil || e != 3 {
			t.Errorf("Parse(%q) = %v, %d", x.want, l, e)
		}
	}
}

// proper makes an event one that Parse may return: its fields that are not written are 0.
func properly(v api.Event) api.Event {
	w := api.Event{Kind: v.Kind, T: v.T}
	switch v.Kind {
	case 1:
		w.N, w.Op.Value = v.N, v.Op.Value
	case 2:
		w.Op = v.Op
		w.Result.E, w.Result.Value, w.Result.Pairs = v.Result.E, v.Result.Value, v.Result.Pairs
	case 3, 4:
		w.N = v.N
	case 6:
		w.Result.Reason = v.Result.Reason
	}
	return w
}

// parses compares Parse with what the chapter says, and reports whether there was no error.
func parses(t *testing.T, s string) bool {
	t.Helper()
	want, wantE := plainParse(s)
	l, e := Parse(s)
	if e != wantE || !sameEvents(l, want) {
		t.Fatalf("Parse(%.200q) = %v, %d, want %v, %d", s, l, e, want, wantE)
	}
	if e == api.OK && Text(l) != s {
		t.Fatalf("Text(Parse(%.200q)) = %.200q", s, Text(l))
	}
	return e == api.OK
}

// Promises 20.2, 20.3: Parse of what Text wrote of events with all kinds of numbers of 0 to 2^40, and of others.
func TestParseText(t *testing.T) {
	d := draws(11)
	small := slices.DeleteFunc(edges(), func(n int) bool { return n < 0 || n > 1<<40 })
	for i := range 20000 {
		from := [][]int{small, edges()}[i/10000]
		var l, want []api.Event
		for range d.below(6) {
			v := anyEvent(&d, d.below(8), from)
			l = append(l, v)
			if v.Kind >= 1 && v.Kind <= 6 {
				want = append(want, properly(v))
			}
		}
		before := copied(l)
		s := Text(l)
		if s != plainText(l) {
			t.Fatalf("Text = %q, want %q", s, plainText(l))
		}
		ok := parses(t, s)
		if i < 10000 && !ok {
			t.Fatalf("Parse(%q) is an error", s)
		}
		if back, e := Parse(s); e == api.OK && !sameEvents(back, want) {
			t.Fatalf("Parse(%q) = %v, want %v", s, back, want)
		}
		if !sameEvents(l, before) {
			t.Fatalf("%v has become %v", before, l)
		}
	}
}

// Promise 20.2: texts that are refused, and ones beside them that are not.
func TestParseForms(t *testing.T) {
	for _, x := range []struct {
		s string
		n int
	}{
		{"", 0}, {"done 1\n", 1}, {"done 0\n", 1}, {"done 1\ndone 1\nop 1 2 3 4 5 6 7\n", 3},
		{"done 1099511627776\n", 1}, {"begin 1099511627776 1099511627776 1099511627776\n", 1},
		{"op 1 2 3 4 5 6 7 1099511627776=1099511627776 0=0\n", 1}, {"prep 1 0\n", 1}, {"bond 1 1\n", 1}, {"gone 5 9\n", 1},
		{"done 1", -1}, {"\n", -1}, {"\n\n", -1}, {"done 1\n\n", -1}, {"\ndone 1\n", -1}, {"done 1\ndone 2", -1},
		{"done", -1}, {"done\n", -1}, {"done \n", -1}, {"done 1 \n", -1}, {" done 1\n", -1}, {"done  1\n", -1}, {"done 1 1\n", -1}, {"done\t1\n", -1}, {"done=1\n", -1},
		{"done 01\n", -1}, {"done 00\n", -1}, {"done -0\n", -1}, {"done -1\n", -1}, {"done +1\n", -1}, {"done 1_0\n", -1}, {"done 0x1\n", -1}, {"done 1.0\n", -1}, {"done 1e1\n", -1}, {"done ١\n", -1}, {"done x\n", -1},
		{"done 1099511627777\n", -1}, {"done 9999999999999\n", -1}, {"done 10000000000000\n", -1}, {"done 18446744073709551616\n", -1}, {"done 18446744073709551617\n", -1},
		{"Done 1\n", -1}, {"DONE 1\n", -1}, {"don 1\n", -1}, {"donee 1\n", -1}, {"done1 1\n", -1}, {"1 1\n", -1}, {" 1\n", -1}, {"\x00 1\n", -1}, {"end 1\n", -1},
		{"done 1\r\n", -1}, {"done 1\x00\n", -1}, {"done 1\ndone 1\r\n", -1}, {"\ufeffdone 1\n", -1},
		{"begin 1 1\n", -1}, {"begin 1 1 1 1\n", -1}, {"begin 1 1 1 1=1\n", -1}, {"begin 1 1099511627777 1\n", -1}, {"begin 1 1 1099511627777\n", -1}, {"begin 1 -1 1\n", -1},
		{"prep 1\n", -1}, {"prep 1 1 1\n", -1}, {"prep 1 x\n", -1}, {"bond 1\n", -1}, {"bond 1 2 3\n", -1}, {"bond 1=2\n", -1}, {"gone 1\n", -1}, {"gone 1 2 3\n", -1}, {"gone 1 1099511627777\n", -1},
		{"op 1 2 3 4 5 6\n", -1}, {"op 1 2 3 4 5 6 7 8\n", -1}, {"op 1 2 3 4 5 6 7 8=\n", -1}, {"op 1 2 3 4 5 6 7 =8\n", -1}, {"op 1 2 3 4 5 6 7 8=9=10\n", -1}, {"op 1 2 3 4 5 6 7 8 =9\n", -1}, {"op 1 2 3 4 5 6 7 8= 9\n", -1},
		{"op 1 2 3 4 5 6 7 8=9 \n", -1}, {"op 1 2 3 4 5 6 7  8=9\n", -1}, {"op 1 2 3 4 5 6 7 08=9\n", -1}, {"op 1 2 3 4 5 6 7 8=09\n", -1}, {"op 1 2 3 4 5 6 7 8=1099511627777\n", -1}, {"op 1 2 3 4 5 6 8=9\n", -1}, {"op 1 2 3 4 5 6 7=8 9\n", -1}, {"op 1 2 3 4 5 6 7 8=9 10\n", -1},
		{"op 1 2 3 4 5 6 7 8=9,10=11\n", -1}, {"op 1 2 3 4 5 -6 7\n", -1}, {"op 1 2 3 4 5 6 -7\n", -1},
	} {
		if ok := parses(t, x.s); ok != (x.n >= 0) {
			t.Errorf("Parse(%q) is well: %v", x.s, ok)
		}
		if l, _ := Parse(x.s); len(l) != max(x.n, 0) {
			t.Errorf("Parse(%q) = %v", x.s, l)
		}
	}
}

// Promise 20.2: every text of a few parts of lines.
func TestParseEveryText(t *testing.T) {
	var all func(s string, parts []string, more int) int
	all = func(s string, parts []string, more int) int {
		n := 0
		if parses(t, s) {
			n++
		}
		if more > 0 {
			for _, p := range parts {
				n += all(s+p, parts, more-1)
			}
		}
		return n
	}
	for _, x := range []struct {
		start      string
		parts      []string
		more, want int
	}{
		{"", []string{"done", "begin", "bond", " ", "\n", "=", "0", "1"}, 5, 5},
		{"", []string{"done 1", "gone", "prep", "op 1 2 3 4 5 6 7", " 1", "\n", " 2=3", "0"}, 5, 40},
		{"op 1 2 3 4 5 6 7", []string{" ", "8", "=", "0", "\n", "-"}, 6, 3},
	} {
		if n := all(x.start, x.parts, x.more); n < x.want {
			t.Errorf("%d texts are well", n)
		}
	}
}

// Promise 20.2: a text in which any one byte is another one, or is left out, or has one more ahead of it.
func TestParseEveryByte(t *testing.T) {
	s := "begin 1 10 3\nop 1 2 30 4 5 6 70 8=90 1=0\nprep 1 12\nbond 2 1\ndone 1\ngone 2 4\n"
	if !parses(t, s) {
		t.Fatal("the text is not well")
	}
	well := 0
	for i := range len(s) + 1 {
		for c := range 256 {
			b := string([]byte{byte(c)})
			for _, x := range []string{s[:i] + b + s[i:], s[:i] + b + s[min(i+1, len(s)):]} {
				if parses(t, x) {
					well++
				}
			}
		}
		parses(t, s[:i]+s[min(i+1, len(s)):])
		parses(t, s[:i])
		parses(t, s[i:])
	}
	if well < 500 {
		t.Errorf("%d texts are well", well)
	}
}

// Promises 20.2, 20.4: texts of up to 1,000,000 bytes, and of more.
func TestParseLong(t *testing.T) {
	line := "done 12345\n"
	s := strings.Repeat(line, 90908) + "begin 1 1 1\n"
	if len(s) != 1000000 {
		t.Fatalf("%d bytes", len(s))
	}
	if l, e := Parse(s); len(l) != 90909 || e != api.OK || !sameEvent(l[0], done(12345)) || !sameEvent(l[90908], begin(1, 1, 1)) {
		t.Errorf("Parse is %d events, %d", len(l), e)
	}
	for _, long := range []string{s + "d", s + "\n", "x" + s, s[:len(s)-2] + "10\n", strings.Repeat("\x00", 1000001), s + s} {
		if l, e := Parse(long); l != nil || e != api.ErrLong {
			t.Errorf("Parse is %d events, %d", len(l), e)
		}
	}
	for _, bad := range []string{"x", "\n\n", " ", "0", "=", "done 1", "op 1 2 3 4 5 6 7 8=9", "done ", "\xff"} {
		for _, x := range []string{strings.Repeat(bad, 1000000/len(bad)), s[:1000000-len(bad)] + bad} {
			if l, e := Parse(x); l != nil || e != api.ErrForm {
				t.Errorf("Parse of many %q is %d events, %d", bad, len(l), e)
			}
		}
	}
	many := "op 1 2 3 4 5 6 7" + strings.Repeat(" 8=9", 200000) + "\n"
	if l, e := Parse(many); e != api.OK || len(l) != 1 || len(l[0].Result.Pairs) != 200000 || Text(l) != many {
		t.Errorf("Parse of 200,000 pairs is %d events, %d", len(l), e)
	}
	if s := Text(slices.Repeat([]api.Event{done(12345)}, 200000)); s != strings.Repeat(line, 200000) {
		t.Errorf("Text of 200,000 events has %d bytes", len(s))
	}
}

// Rule 3: no two lists of one answer of Parse share anything, nor do two answers.
func TestParseIsNew(t *testing.T) {
	s := "op 1 2 3 4 5 6 7 1=2 3=4\nop 1 2 3 4 5 6 7 5=6\nop 1 2 3 4 5 6 7 7=8 9=0 1=1\n"
	l, _ := Parse(s)
	again, _ := Parse(s)
	for i := range l {
		p := l[i].Result.Pairs
		p = p[:cap(p)]
		for k := range p {
			p[k] = api.Pair{Key: i, Value: 99}
		}
	}
	for i := range l {
		for _, p := range l[i].Result.Pairs {
			if p.Key != i {
				t.Errorf("the pairs of event %d are %v", i, l[i].Result.Pairs)
			}
		}
	}
	if Text(again) != s {
		t.Errorf("another answer has become %q", Text(again))
	}
}
