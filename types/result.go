package types

import (
	"iter"
	"slices"

	"chiasmus/api"
	"chiasmus/regular"
	"chiasmus/stop"
	"chiasmus/term"
)

// scope has the types of variables and of functions by their names.
type scope struct {
	variables map[string]regular.Automaton
	functions map[string]Type
}

func newScope(variables []Variable, functions []Type) scope {
	s := scope{map[string]regular.Automaton{}, map[string]Type{}}
	for _, v := range slices.Backward(variables) { // of several ones the first one is the last that is put
		s.variables[v.Name] = v.Type
	}
	for _, f := range slices.Backward(functions) {
		s.functions[f.Name] = f
	}
	return s
}

// knows reports whether all variables and functions of an expression have a type.
func (s scope) knows(e []api.Term) bool {
	for v := range variables(e) {
		if _, ok := s.variables[term.Name(v)]; !ok {
			return false
		}
	}
	for _, call := range calls(e) {
		if _, ok := s.functions[call.Text]; !ok {
			return false
		}
	}
	return true
}

// of returns the type of an expression; with ErrCall the path of a call, and a value.
func (s scope) of(e []api.Term) (a regular.Automaton, path []int, value []api.Term, code api.Errno) {
	code = stop.Attempt(func() {
		for at, call := range calls(e) {
			if outside, ok := s.outside(call); ok {
				path, value = slices.Clone(at), outside
				stop.Need(ErrCall)
			}
		}
		a = build(e, s.given)
	})
	return a, path, value, code
}

// given returns the type of a variable or a call.
func (s scope) given(t api.Term) regular.Automaton {
	if t.Kind == api.Call {
		return s.functions[t.Text].Result
	}
	return s.variables[term.Name(t)]
}

// outside returns a value that the argument of a call may have, and its function does not take; false, if there is none.
func (s scope) outside(call api.Term) ([]api.Term, bool) {
	return outside(build(call.Kids, s.given), s.functions[call.Text].Arg)
}

// outside returns a value that is of one type alone; false, if there is none. It stops with the error of the operation.
func outside(a, of regular.Automaton) ([]api.Term, bool) {
	within, value, e := regular.Within(a, of)
	stop.Need(e)
	return value, !within
}

// calls yields the calls of an expression in the order of the text, but those in a call ahead of it, with their paths.
// A path holds for one turn of the loop: the next one is in the same memory.
func calls(e []api.Term) iter.Seq2[[]int, api.Term] {
	return func(yield func([]int, api.Term) bool) { visitCalls(e, nil, yield) }
}

func visitCalls(l []api.Term, around []int, yield func([]int, api.Term) bool) bool {
	path := append(around, 0)
	for i, t := range l {
		path[len(around)] = i
		if !visitCalls(t.Kids, path, yield) || t.Kind == api.Call && !yield(path, t) {
			return false
		}
	}
	return true
}
