// Package stop lets an error leave calls of any depth: it is a panic that Attempt recovers.
package stop

import "chiasmus/api"

// failure is the panic with an error.
type failure struct{ code api.Errno }

// Need stops with an error, if it is one.
func Need(e api.Errno) {
	if e != api.OK {
		panic(failure{e})
	}
}

// Unless stops with an error, if something does not hold.
func Unless(holds bool, e api.Errno) {
	if !holds {
		panic(failure{e})
	}
}

// Attempt calls a function, and returns the error with which it stops.
func Attempt(do func()) (e api.Errno) {
	defer func() {
		switch x := recover().(type) {
		case nil:
		case failure:
			e = x.code
		default:
			panic(x)
		}
	}()
	do()
	return api.OK
}
