package extend

import (
	"chiasmus/api"
	"chiasmus/builtin"
	"chiasmus/stop"
	"chiasmus/term"
	"chiasmus/view"
)

// run is what all evaluations of a run share. Its methods stop with the errors of an evaluation.
type run struct {
	sentences map[string][]api.Sentence
	store     api.Store
	ahead     int // steps of the state at the beginning
	made      int // steps since
	fuel      int
	tries     int // matches that were tried within this step of the outermost field
	nested    int // evaluations that are going on, but for that of the outermost field
}

func newRun(p api.Program, s api.State, fuel int) *run {
	r := &run{sentences: map[string][]api.Sentence{}, store: s.Store, ahead: s.Steps, fuel: fuel}
	for _, f := range p.Functions {
		r.sentences[f.Name] = f.Sentences
	}
	return r
}

// state returns the present state with a view field, in memory of its own.
func (r *run) state(l []api.Term) api.State {
	return api.State{Field: term.Copy(l), Store: r.store, Steps: r.ahead + r.made}
}

// mayStep stops, if the fuel is used up.
func (r *run) mayStep() { stop.Unless(r.made < r.fuel, api.ErrFuel) }

// count counts a step.
func (r *run) count() {
	stop.Unless(r.ahead+r.made < view.MaxSteps, api.ErrRange)
	r.made++
}

// step replaces the active call of a field; false, if there is none. If it stops, this field has not changed.
func (r *run) step(f *view.Field) bool {
	call, ok := f.Active()
	if !ok {
		return false
	}
	r.mayStep()
	result, store := r.called(call)
	r.mayStep()
	stop.Unless(f.Fits(result), api.ErrLarge)
	r.count()
	r.store = store
	f.Replace(result)
	return true
}

// called returns what replaces a call, and the store behind it.
func (r *run) called(call api.Term) ([]api.Term, api.Store) {
	nodes, _ := term.Size(call.Kids)
	stop.Unless(nodes <= api.MaxNodes, api.ErrLarge)
	if sentences, own := r.sentences[call.Text]; own {
		_, result := r.take(sentences, call.Kids, nil)
		return result, r.store
	}
	stop.Unless(builtin.Is(call.Text), api.ErrUndefined)
	result, store, code := builtin.Apply(call.Text, call.Kids, r.store)
	stop.Need(code)
	return result, store
}

// evaluated returns the value of the expression of a condition, or of a subject.
func (r *run) evaluated(l []api.Term, bound []api.Binding) []api.Term {
	f := view.Open(under(l, bound))
	stop.Unless(r.nested < MaxNested, ErrNested)
	r.nested++
	for r.step(f) {
	}
	r.nested--
	value := f.Terms()
	nodes, _ := term.Size(value)
	stop.Unless(nodes <= api.MaxNodes, api.ErrLarge)
	return value
}
