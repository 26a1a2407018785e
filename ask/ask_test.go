package ask

import (
	"errors"
	"math"
	"testing"

	"vinculum/api"
)

// What the look knows is handed on as it is, and it is asked once, for the id and no other.
func TestHandsOn(t *testing.T) {
	for _, id := range []int{math.MinInt, -1, 0, 1, 7, 65535, 65536, math.MaxInt} {
		for _, want := range []api.Txn{{}, {Level: api.LSerial, State: api.SPrep, Begin: 3, End: 5}, {Level: -1, State: math.MaxInt, Begin: math.MaxUint64, End: math.MaxUint64}} {
			var asked []int
			x, ok := Txn(func(id int) (api.Txn, bool) {
				asked = append(asked, id)
				return want, true
			}, id)
			if x != want || !ok {
				t.Error(x, ok, want)
			}
			if len(asked) != 1 || asked[0] != id {
				t.Error(asked, id)
			}
		}
	}
}

// A look that does not know the transaction says so through it.
func TestUnknown(t *testing.T) {
	if x, ok := Txn(func(int) (api.Txn, bool) { return api.Txn{}, false }, 7); ok || x != (api.Txn{}) {
		t.Error(x, ok)
	}
}

// A look that is nil is not called and knows no transaction.
func TestNil(t *testing.T) {
	if x, ok := Txn(nil, 7); ok || x != (api.Txn{}) {
		t.Error(x, ok)
	}
}

// A look that panics, by whatever, knows no transaction.
func TestPanics(t *testing.T) {
	var none map[int]*api.Txn
	for i, look := range []func(int) (api.Txn, bool){
		func(int) (api.Txn, bool) { panic("look") },
		func(int) (api.Txn, bool) { panic(errors.New("look")) },
		func(int) (api.Txn, bool) { panic(nil) },
		func(id int) (api.Txn, bool) { return *none[id], true },
		func(id int) (api.Txn, bool) { return []api.Txn{}[id], true },
		func(int) (x api.Txn, ok bool) {
			defer func() { panic("late") }()
			return api.Txn{State: api.SDone}, true
		},
	} {
		if x, ok := Txn(look, 7); ok || x != (api.Txn{}) {
			t.Error(i, x, ok)
		}
	}
}
