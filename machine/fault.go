package machine

import (
	"errors"

	"chiasmus/api"
)

// fault is an error that stops a step, and what was done when it came.
type fault struct {
	doing string
	errno api.Errno
}

func (f fault) Error() string { return f.doing + ": " + f.errno.Error() }

func (f fault) Unwrap() error { return f.errno }

// need stops with an error, if it is one.
func need(doing string, errno api.Errno) {
	if errno != api.OK {
		panic(fault{doing, errno})
	}
}

// unless stops a step with an error, if something does not hold.
func unless(holds bool, errno api.Errno) {
	if !holds {
		need("step", errno)
	}
}

// attempt calls a function, and returns the error with which it stops.
func attempt(do func()) (errno api.Errno) {
	defer func() {
		switch x := recover().(type) {
		case nil:
		case error:
			if !errors.As(x, &errno) {
				panic(x)
			}
		default:
			panic(x)
		}
	}()
	do()
	return api.OK
}
