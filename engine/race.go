package engine

import (
	"slices"

	"chiasmus/api"
	"chiasmus/term"
)

// ending is how a run ends.
type ending struct {
	state api.State
	code  api.Errno
}

// begin begins a run beside others, and returns the channel through which its ending comes.
func begin(run func() (api.State, api.Errno)) chan ending {
	c := make(chan ending)
	go func() {
		state, code := run()
		c <- ending{state, code}
	}()
	return c
}

// ends waits for the endings of two runs, whichever comes first.
func ends(first, second chan ending) (a, b ending) {
	for first != nil || second != nil {
		select {
		case a = <-first:
			first = nil
		case b = <-second:
			second = nil
		}
	}
	return a, b
}

// same reports whether two endings are equal.
func same(a, b ending) bool {
	return a.code == b.code && a.state.Steps == b.state.Steps && term.Equal(a.state.Field, b.state.Field) && sameStores(a.state.Store, b.state.Store)
}

func sameStores(a, b api.Store) bool {
	return slices.Equal(a.Output, b.Output) && slices.EqualFunc(a.Buried, b.Buried, func(x, y api.Buried) bool {
		return term.Equal(x.Key, y.Key) && term.Equal(x.Value, y.Value)
	})
}
