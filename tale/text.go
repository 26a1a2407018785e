package tale

import (
	"strconv"
	"strings"

	"vinculum/api"
)

const (
	longest  = 1000000
	greatest = 1 << 40
)

// words are the words of the kinds. There is none of 0, which is no kind.
var words = [...]string{
	api.EBegin: "begin",
	api.EOp:    "op",
	api.EPrep:  "prep",
	api.EBond:  "bond",
	api.EDone:  "done",
	api.EGone:  "gone",
}

// kind tells the kind of a word, or 0.
func kind(word string) int {
	for n, w := range words {
		if w == word {
			return n
		}
	}
	return 0
}

// Text writes a line for each event.
func Text(l []api.Event) string {
	var b []byte
	for _, v := range l {
		if v.Kind >= api.EBegin && v.Kind <= api.EGone {
			b = appendLine(b, v)
		}
	}
	return string(b)
}

func appendLine(b []byte, v api.Event) []byte {
	b = append(b, words[v.Kind]...)
	b = appendInt(b, ' ', v.T)
	switch v.Kind {
	case api.EBegin:
		b = appendUint(b, v.N)
		b = appendInt(b, ' ', v.Op.Value)
	case api.EOp:
		b = appendOp(b, v.Op, v.Result)
	case api.EPrep, api.EBond:
		b = appendUint(b, v.N)
	case api.EGone:
		b = appendInt(b, ' ', v.Result.Reason)
	}
	return append(b, '\n')
}

func appendOp(b []byte, o api.Op, r api.Result) []byte {
	for _, n := range [...]int{o.Kind, o.Key, o.Hi, o.Value, int(r.E), r.Value} {
		b = appendInt(b, ' ', n)
	}
	for _, p := range r.Pairs {
		b = appendInt(b, ' ', p.Key)
		b = appendInt(b, '=', p.Value)
	}
	return b
}

// appendInt writes a number behind a mark.
func appendInt(b []byte, mark byte, n int) []byte {
	return strconv.AppendInt(append(b, mark), int64(n), 10)
}

func appendUint(b []byte, n uint64) []byte {
	return strconv.AppendUint(append(b, ' '), n, 10)
}

// Parse reads what Text wrote.
func Parse(s string) ([]api.Event, api.Errno) {
	if len(s) > longest {
		return nil, api.ErrLong
	}
	var l []api.Event
	for s != "" {
		line, rest, ended := strings.Cut(s, "\n")
		v, ok := parseLine(line)
		if !ended || !ok {
			return nil, api.ErrForm
		}
		l, s = append(l, v), rest
	}
	return l, api.OK
}

func parseLine(line string) (api.Event, bool) {
	word, _, _ := strings.Cut(line, " ")
	v := api.Event{Kind: kind(word)}
	r := &reader{rest: line[len(word):]}
	v.T = r.field(" ")
	switch v.Kind {
	case api.EBegin:
		v.N = r.number(" ")
		v.Op.Value = r.field(" ")
	case api.EOp:
		v.Op, v.Result = r.op()
	case api.EPrep, api.EBond:
		v.N = r.number(" ")
	case api.EGone:
		v.Result.Reason = r.field(" ")
	}
	return v, v.Kind != 0 && !r.failed && r.rest == ""
}

// reader reads the numbers of a line, one after the other. Once one of them is not as Text writes it, it has failed.
type reader struct {
	rest   string
	failed bool
}

// number reads a number with the mark ahead of it.
func (r *reader) number(mark string) uint64 {
	s, marked := strings.CutPrefix(r.rest, mark)
	digits := s[:len(s)-len(strings.TrimLeft(s, "0123456789"))]
	n, e := strconv.ParseUint(digits, 10, 64)
	if !marked || e != nil || n > greatest || digits[0] == '0' && digits != "0" {
		r.failed = true
		return 0
	}
	r.rest = s[len(digits):]
	return n
}

func (r *reader) field(mark string) int {
	return int(r.number(mark))
}

// op reads an operation with its result.
func (r *reader) op() (o api.Op, a api.Result) {
	for _, n := range [...]*int{&o.Kind, &o.Key, &o.Hi, &o.Value} {
		*n = r.field(" ")
	}
	a.E = api.Errno(r.field(" "))
	a.Value = r.field(" ")
	for !r.failed && r.rest != "" {
		key := r.field(" ")
		a.Pairs = append(a.Pairs, api.Pair{Key: key, Value: r.field("=")})
	}
	return o, a
}
