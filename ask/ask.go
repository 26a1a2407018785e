// Package ask asks a function that a caller handed in for a transaction. It is shared by the packages that decide by what such a function knows.
package ask

import (
	"vinculum/api"
)

// Txn asks look for the transaction id. A look that is nil, or that panics, knows no transaction, since no call panics, whatever function it is given.
func Txn(look func(int) (api.Txn, bool), id int) (x api.Txn, ok bool) {
	if look == nil {
		return api.Txn{}, false
	}
	defer func() {
		_ = recover()
	}()
	return look(id)
}
