package trace

import (
	"iter"
	"slices"

	"chiasmus/api"
	"chiasmus/field"
	"chiasmus/term"
)

// moment is a state of a run, with the step by which it came; the first one has no moment ahead of it.
type moment struct {
	state api.State
	event Event
	path  []int // of the call that was replaced, in the state ahead
	ahead *moment
}

// active returns the active call of the present state.
func (r *Recorder) active() (api.Term, bool) {
	l := r.present.state.Field
	path, ok := field.Active(l)
	if !ok {
		return api.Term{}, false
	}
	return term.At(l, path)
}

// step makes a step, which there must be, and keeps it.
func (r *Recorder) step() api.Errno {
	if r.events >= MaxEvents {
		return api.ErrCount
	}
	s := r.present.state
	next, code := field.Step(r.program, s)
	if code != api.OK {
		return code
	}
	number, bindings, code := field.Sentence(r.program, s)
	if code != api.OK {
		return code
	}
	path, _ := field.Active(s.Field)
	call, _ := term.At(s.Field, path)
	r.present = &moment{
		state: next,
		event: Event{call.Text, call.Kids, number, bindings, replacement(s.Field, next.Field, path)},
		path:  path,
		ahead: r.present,
	}
	r.events++
	return api.OK
}

// replacement returns what stands in a field in the place of a term of the field ahead of it.
func replacement(ahead, now []api.Term, path []int) []api.Term {
	last := len(path) - 1
	for _, i := range path[:last] {
		ahead, now = ahead[i].Kids, now[i].Kids
	}
	first, behind := path[last], len(ahead)-path[last]-1
	return now[first : len(now)-behind]
}

// copied returns an event in memory of its own.
func (x Event) copied() Event {
	x.Argument, x.Result = term.Copy(x.Argument), term.Copy(x.Result)
	x.Bindings = slices.Clone(x.Bindings)
	for i, b := range x.Bindings {
		x.Bindings[i].Value = term.Copy(b.Value)
	}
	return x
}

// backward yields the numbers of the steps that were made, and the moments behind them, from the last one on.
func (r *Recorder) backward() iter.Seq2[int, *moment] {
	return func(yield func(int, *moment) bool) {
		k := r.events - 1
		for m := r.present; m.ahead != nil && yield(k, m); m = m.ahead {
			k--
		}
	}
}

// moments yields the same from the first one on.
func (r *Recorder) moments() iter.Seq2[int, *moment] {
	l := make([]*moment, r.events)
	for k, m := range r.backward() {
		l[k] = m
	}
	return slices.All(l)
}
