package field

import (
	"chiasmus/api"
	"chiasmus/apply"
	"chiasmus/builtin"
	"chiasmus/match"
	"chiasmus/stop"
	"chiasmus/term"
	"chiasmus/view"
)

// run is a state on its way: its view field is open, and the Field in the state is that of the beginning.
// Its methods stop with the errors of a step.
type run struct {
	api.State
	view      *view.Field
	sentences map[string][]api.Sentence
}

func newRun(p api.Program, s api.State) *run {
	r := &run{State: s, view: view.Open(s.Field), sentences: map[string][]api.Sentence{}}
	for _, f := range p.Functions {
		r.sentences[f.Name] = f.Sentences
	}
	return r
}

// state returns the present state, whose Field is memory of its own.
func (r *run) state() api.State {
	return api.State{Field: term.Copy(r.view.Terms()), Store: r.Store, Steps: r.Steps}
}

// steps makes steps until no call is left.
func (r *run) steps(fuel int) {
	for made := 0; ; made++ {
		if _, ok := r.view.Active(); !ok {
			return
		}
		stop.Unless(made < fuel, api.ErrFuel)
		r.step()
	}
}

// What the name of a call may be that of.
const (
	own = iota
	builtIn
	none
)

func (r *run) kind(name string) int {
	if _, ok := r.sentences[name]; ok {
		return own
	}
	if builtin.Is(name) {
		return builtIn
	}
	return none
}

// step replaces the active call. If it stops, nothing has changed.
func (r *run) step() {
	call := r.call()
	ways := [...]func(*run, api.Term) ([]api.Term, api.Store){own: (*run).own, builtIn: (*run).builtIn, none: (*run).none}
	result, store := ways[r.kind(call.Text)](r, call)
	stop.Unless(r.view.Fits(result), api.ErrLarge)
	stop.Unless(r.Steps < view.MaxSteps, api.ErrRange)
	r.view.Replace(result)
	r.Store = store
	r.Steps++
}

// call returns the active call.
func (r *run) call() api.Term {
	call, ok := r.view.Active()
	stop.Unless(ok, api.ErrClosed)
	nodes, _ := term.Size(call.Kids)
	stop.Unless(nodes <= api.MaxNodes, api.ErrLarge)
	return call
}

func (r *run) own(call api.Term) ([]api.Term, api.Store) {
	number, bindings := r.first(call)
	result, code := apply.Within(r.sentences[call.Text][number].Right, bindings, api.MaxField)
	stop.Need(code)
	return result, r.Store
}

// first returns the number of the first sentence that takes a call's argument, and its match.
func (r *run) first(call api.Term) (int, []api.Binding) {
	for i, s := range r.sentences[call.Text] {
		if bindings, code := match.First(s.Left, call.Kids, nil); code == api.OK {
			return i, bindings
		}
	}
	stop.Need(api.ErrRecognition)
	return 0, nil
}

func (r *run) builtIn(call api.Term) ([]api.Term, api.Store) {
	result, store, code := builtin.Apply(call.Text, call.Kids, r.Store)
	stop.Need(code)
	return result, store
}

func (r *run) none(api.Term) ([]api.Term, api.Store) {
	stop.Need(api.ErrUndefined)
	return nil, api.Store{}
}

// sentence returns the number and the match of the sentence that the next step uses.
func (r *run) sentence() (int, []api.Binding) {
	call := r.call()
	switch r.kind(call.Text) {
	case own:
		return r.first(call)
	case none:
		stop.Need(api.ErrUndefined)
	}
	return -1, nil
}
