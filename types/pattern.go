package types

import (
	"iter"

	"chiasmus/api"
	"chiasmus/regular"
	"chiasmus/stop"
	"chiasmus/term"
)

// build returns the automaton of an expression, where one of each variable and call is given. It stops with the error of an operation.
func build(l []api.Term, given func(api.Term) regular.Automaton) regular.Automaton {
	a := got(regular.Exactly(nil))
	for _, t := range l {
		a = got(regular.Concat(a, ofTerm(t, given)))
	}
	return a
}

func ofTerm(t api.Term, given func(api.Term) regular.Automaton) regular.Automaton {
	switch {
	case term.IsSymbol(t):
		return got(regular.Exactly([]api.Term{t}))
	case t.Kind == api.Group:
		return got(regular.Wrap(build(t.Kids, given)))
	}
	return given(t)
}

// got returns the result of an operation, or stops with its error.
func got[T any](result T, e api.Errno) T {
	stop.Need(e)
	return result
}

// anyOfKind returns the automaton of all values of a variable.
func anyOfKind(v api.Term) regular.Automaton {
	switch v.Kind {
	case api.SVar:
		return regular.Automaton{States: 2, Final: []int{1}, Edges: symbolEdges(0, 1)}
	case api.TVar:
		edges := append(symbolEdges(0, 1), regular.Edge{From: 0, To: 1, Kind: regular.Nest, Inner: 2})
		edges = append(edges, symbolEdges(2, 2)...)
		edges = append(edges, regular.Edge{From: 2, To: 2, Kind: regular.Nest, Inner: 2})
		return regular.Automaton{States: 3, Final: []int{1, 2}, Edges: edges}
	}
	return regular.Any()
}

// symbolEdges returns edges between two states that read all symbols.
func symbolEdges(from, to int) []regular.Edge {
	var l []regular.Edge
	for _, kind := range [...]int{regular.Chars, regular.Words, regular.Numbers} {
		l = append(l, regular.Edge{From: from, To: to, Kind: kind})
	}
	return l
}

// variables yields the occurrences of variables in an expression, in the order of the text.
func variables(l []api.Term) iter.Seq[api.Term] {
	return func(yield func(api.Term) bool) { visitVariables(l, yield) }
}

func visitVariables(l []api.Term, yield func(api.Term) bool) bool {
	for _, t := range l {
		if term.IsVariable(t) && !yield(t) || !visitVariables(t.Kids, yield) {
			return false
		}
	}
	return true
}
