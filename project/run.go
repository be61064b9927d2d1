package project

import (
	"slices"

	"chiasmus/api"
	"chiasmus/term"
)

// run looks for the matches of a plan with a value.
type run struct {
	*layout
	spans  [][]element // what is left of holes, by its places
	values [][]element // of variables, by their places
	done   int         // how many operations were done
}

// newRun returns a run of a plan, or the error of an argument.
func newRun(p Plan, value []api.Term, given []api.Binding) (*run, api.Errno) {
	l, e := arrange(p)
	if e != api.OK {
		return nil, e
	}
	if e := term.Value(value); e != api.OK {
		return nil, e
	}
	if len(given) != len(p.Given) {
		return nil, api.ErrCount
	}
	r := &run{layout: l, spans: make([][]element, l.rests), values: make([][]element, len(l.slots))}
	for i, name := range p.Given {
		b := slices.IndexFunc(given, func(b api.Binding) bool { return b.Var == name })
		if b < 0 {
			return nil, api.ErrMissing
		}
		if e := valueError(name, given[b].Value); e != api.OK {
			return nil, e
		}
		r.values[i] = elements(nil, given[b].Value)
	}
	r.spans[0] = elements(nil, value)
	return r, api.OK
}

// valueError returns the error of the value of a variable.
func valueError(name string, value []api.Term) api.Errno {
	if e := term.Value(value); e != api.OK {
		return e
	}
	v, _ := term.Variable(name)
	if v.Kind != api.EVar && len(value) != 1 || v.Kind == api.SVar && !term.IsSymbol(value[0]) {
		return api.ErrForm
	}
	return api.OK
}

// order returns the variables that a match binds, in the order of its bindings.
func (r *run) order() []string {
	isGiven := func(name string) bool { return r.slots[name] < r.given }
	return slices.DeleteFunc(term.Variables(r.pattern()), isGiven)
}

// bindings returns the match that was found.
func (r *run) bindings(order []string) []api.Binding {
	l := make([]api.Binding, len(order))
	for i, name := range order {
		l[i] = api.Binding{Var: name, Value: terms(r.values[r.slots[name]])}
	}
	return l
}

// matches yields each time when all operations are done.
func (r *run) matches(yield func() bool) {
	do := operations()
	at := 0
doing:
	for {
		if at < len(r.steps) {
			s := &r.steps[at]
			r.done++
			if do[s.Kind](r, s) {
				at++
				continue
			}
		} else if !yield() {
			return
		}
		for open := r.opens[at]; open >= 0; open = r.opens[open] {
			if r.lengthen(&r.steps[open]) {
				r.done++
				at = open + 1
				continue doing
			}
		}
		return
	}
}

// operations returns what is done for a step by the kind of its operation; false, if it fails.
func operations() [Open + 1]func(*run, *step) bool {
	return [Open + 1]func(*run, *step) bool{
		Symbol: (*run).symbol,
		Enter:  (*run).enter,
		TakeS:  (*run).takeS,
		TakeT:  (*run).takeT,
		Known:  (*run).known,
		Empty:  (*run).empty,
		Close:  (*run).close,
		Open:   (*run).open,
	}
}

// term returns the elements of the term at the end of the step's hole, and takes them away; none, if there is no term.
func (r *run) term(s *step) []element {
	l := r.spans[s.from]
	switch {
	case len(l) == 0:
		return nil
	case s.Right:
		last := len(l) - 1
		return r.take(s, len(l)-(last+l[last].width))
	}
	return r.take(s, l[0].width+1)
}

// take returns the first elements at the end of the step's hole, and takes them away.
func (r *run) take(s *step, n int) []element {
	l := r.spans[s.from]
	if s.Right {
		rest := len(l) - n
		r.spans[s.to] = l[:rest]
		return l[rest:]
	}
	r.spans[s.to] = l[n:]
	return l[:n]
}

func (r *run) symbol(s *step) bool {
	t := r.term(s)
	return len(t) == 1 && t[0].kind == s.Symbol.Kind && t[0].text == s.Symbol.Text
}

func (r *run) enter(s *step) bool {
	t := r.term(s)
	if len(t) < 2 {
		return false
	}
	r.spans[s.inner] = t[1 : len(t)-1]
	return true
}

func (r *run) takeS(s *step) bool {
	t := r.term(s)
	r.values[s.slot] = t
	return len(t) == 1
}

func (r *run) takeT(s *step) bool {
	t := r.term(s)
	r.values[s.slot] = t
	return len(t) > 0
}

func (r *run) known(s *step) bool {
	v := r.values[s.slot]
	return len(v) <= len(r.spans[s.from]) && alike(v, r.take(s, len(v)))
}

func (r *run) empty(s *step) bool { return len(r.spans[s.from]) == 0 }

func (r *run) close(s *step) bool {
	r.values[s.slot] = r.spans[s.from]
	return true
}

func (r *run) open(s *step) bool {
	r.values[s.slot] = r.take(s, 0)
	return true
}

// lengthen gives the variable of an Open a term more; false, if there is none.
func (r *run) lengthen(s *step) bool {
	rest := r.spans[s.to]
	if len(rest) == 0 {
		return false
	}
	r.values[s.slot] = r.take(s, len(r.values[s.slot])+rest[0].width+1)
	return true
}
