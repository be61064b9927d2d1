package field

import (
	"chiasmus/api"
	"chiasmus/apply"
	"chiasmus/builtin"
	"chiasmus/match"
	"chiasmus/stop"
	"chiasmus/term"
	"chiasmus/view"
)

// Function is an own function of a program: it returns the result for an argument, or the error of the step.
type Function func(arg []api.Term) ([]api.Term, api.Errno)

// Functions returns those of a right core program by their names.
func Functions(p api.Program) map[string]Function {
	own := map[string]Function{}
	for _, f := range p.Functions {
		own[f.Name] = func(arg []api.Term) ([]api.Term, api.Errno) {
			number, bindings, code := first(f.Sentences, arg)
			if code != api.OK {
				return nil, code
			}
			return apply.Within(f.Sentences[number].Right, bindings, api.MaxField)
		}
	}
	return own
}

// first returns the number of the first sentence that takes an argument, and its match.
func first(l []api.Sentence, arg []api.Term) (int, []api.Binding, api.Errno) {
	for i, s := range l {
		if bindings, code := match.First(s.Left, arg, nil); code == api.OK {
			return i, bindings, api.OK
		}
	}
	return 0, nil, api.ErrRecognition
}

// run is a state on its way: its view field is open, and the Field in the state is that of the beginning.
// Its methods stop with the errors of a step.
type run struct {
	api.State
	view      *view.Field
	functions map[string]Function
}

func newRun(own map[string]Function, s api.State) *run {
	return &run{State: s, view: view.Open(s.Field), functions: own}
}

// state returns the present state, whose Field is memory of its own.
func (r *run) state() api.State {
	return api.State{Field: term.Copy(r.view.Terms()), Store: r.Store, Steps: r.Steps}
}

// steps makes steps until no call is left.
func (r *run) steps(fuel int) {
	for made := 0; ; made++ {
		if _, ok := r.view.Active(); !ok {
			return
		}
		stop.Unless(made < fuel, api.ErrFuel)
		r.step()
	}
}

// What the name of a call may be that of.
const (
	own = iota
	builtIn
	none
)

func (r *run) kind(name string) int {
	if r.functions[name] != nil {
		return own
	}
	if builtin.Is(name) {
		return builtIn
	}
	return none
}

// step replaces the active call. If it stops, nothing has changed.
func (r *run) step() {
	call := r.call()
	ways := [...]func(*run, api.Term) ([]api.Term, api.Store){own: (*run).own, builtIn: (*run).builtIn, none: (*run).none}
	result, store := ways[r.kind(call.Text)](r, call)
	stop.Unless(r.view.Fits(result), api.ErrLarge)
	stop.Unless(r.Steps < view.MaxSteps, api.ErrRange)
	r.view.Replace(result)
	r.Store = store
	r.Steps++
}

// call returns the active call.
func (r *run) call() api.Term {
	call, ok := r.view.Active()
	stop.Unless(ok, api.ErrClosed)
	nodes, _ := term.Size(call.Kids)
	stop.Unless(nodes <= api.MaxNodes, api.ErrLarge)
	return call
}

func (r *run) own(call api.Term) ([]api.Term, api.Store) {
	result, code := r.functions[call.Text](call.Kids)
	stop.Need(code)
	return result, r.Store
}

func (r *run) builtIn(call api.Term) ([]api.Term, api.Store) {
	result, store, code := builtin.Apply(call.Text, call.Kids, r.Store)
	stop.Need(code)
	return result, store
}

func (r *run) none(api.Term) ([]api.Term, api.Store) {
	stop.Need(api.ErrUndefined)
	return nil, api.Store{}
}
