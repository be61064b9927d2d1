package stop_test

import (
	"testing"

	"chiasmus/api"
	"chiasmus/stop"
)

func TestAttempt(t *testing.T) {
	behind := false
	for _, c := range []struct {
		do   func()
		want api.Errno
		goes bool // on behind the call
	}{
		{func() { stop.Need(api.OK) }, api.OK, true},
		{func() { stop.Need(api.ErrLarge) }, api.ErrLarge, false},
		{func() { stop.Unless(true, api.ErrLarge) }, api.OK, true},
		{func() { stop.Unless(false, api.ErrFuel) }, api.ErrFuel, false},
		{func() { stop.Need(stop.Attempt(func() { stop.Need(api.ErrForm) })) }, api.ErrForm, false},
		{func() { stop.Attempt(func() { stop.Need(api.ErrForm) }) }, api.OK, true},
	} {
		behind = false
		e := stop.Attempt(func() {
			c.do()
			behind = true
		})
		if e != c.want || behind != c.goes {
			t.Errorf("Attempt = %v, went on %v, want %v, %v", e, behind, c.want, c.goes)
		}
	}
}

func TestOtherPanics(t *testing.T) {
	defer func() {
		if recover() != "other" {
			t.Error("a panic that is no error was taken for one")
		}
	}()
	stop.Attempt(func() { panic("other") })
}
