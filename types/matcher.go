package types

import (
	"chiasmus/api"
	"chiasmus/regular"
	"chiasmus/stop"
	"chiasmus/term"
)

// states is a set of states of an automaton.
type states []bool

func (s states) has(q int) bool { return s[q] }

// matcher finds the types that the variables of a pattern have, if it matches values of a trimmed automaton.
type matcher struct {
	a       regular.Automaton
	out, in [][]int // the states to which the edges from each state lead, and those from which edges lead to it
	types   map[string]regular.Automaton
}

func newMatcher(a regular.Automaton) *matcher {
	m := &matcher{a, make([][]int, a.States), make([][]int, a.States), map[string]regular.Automaton{}}
	for _, x := range a.Edges {
		m.out[x.From] = append(m.out[x.From], x.To)
		m.in[x.To] = append(m.in[x.To], x.From)
	}
	return m
}

// states returns a set of some states.
func (m *matcher) states(of ...int) states {
	s := make(states, m.a.States)
	for _, q := range of {
		s[q] = true
	}
	return s
}

// list is a list of a pattern: its items, and the states from which the items from each one on can be matched;
// the last set has the final states.
type list struct {
	items []item
	from  []states
}

// item is a term of a pattern; a group has the list of what is in it.
type item struct {
	term api.Term
	kids *list
}

// list returns a list of a pattern with its sets, which do not depend on what stands around it.
func (m *matcher) list(l []api.Term) *list {
	x := &list{make([]item, len(l)), make([]states, len(l)+1)}
	x.from[len(l)] = m.states(m.a.Final...)
	for i := len(l) - 1; i >= 0; i-- {
		x.items[i] = item{term: l[i]}
		if l[i].Kind == api.Group {
			x.items[i].kids = m.list(l[i].Kids)
		}
		x.from[i] = m.back(x.items[i], x.from[i+1])
	}
	return x
}

// leads reports whether an item that is no e-variable leads from state to state by an edge.
func (x item) leads(by regular.Edge) bool {
	switch x.term.Kind {
	case api.TVar:
		return true
	case api.SVar:
		return by.Kind != regular.Nest
	case api.Group:
		return by.Kind == regular.Nest && x.kids.from[0].has(by.Inner)
	}
	return by.Reads(x.term)
}

// back returns the states from which an item leads into a set.
func (m *matcher) back(x item, into states) states {
	if x.term.Kind == api.EVar {
		return reached(into, m.in)
	}
	s := m.states()
	for _, by := range m.a.Edges {
		if into.has(by.To) && x.leads(by) {
			s[by.From] = true
		}
	}
	return s
}

// reached returns the states that are reached from some ones, where others are next to each state.
func reached(from states, next [][]int) states {
	s := make(states, len(from))
	var reach func(q int)
	reach = func(q int) {
		if s.has(q) {
			return
		}
		s[q] = true
		for _, p := range next[q] {
			reach(p)
		}
	}
	for q := range from {
		if from.has(q) {
			reach(q)
		}
	}
	return s
}

// meets reports whether two sets have a state in common.
func meets(s, t states) bool {
	for q := range s {
		if s.has(q) && t.has(q) {
			return true
		}
	}
	return false
}

// use finds the types of the variables of a list that begins in some states. It stops with the error of an operation.
func (m *matcher) use(l *list, begins states) {
	for i, x := range l.items {
		if x.term.Kind == api.EVar {
			begins = m.useList(x, begins, l.from[i+1])
		} else {
			begins = m.useTerm(x, begins, l.from[i+1])
		}
	}
}

// useTerm finds the types of an item of one term between two sets, and returns the states to which it leads.
func (m *matcher) useTerm(x item, from, to states) states {
	var used []regular.Edge
	next, inner := m.states(), m.states()
	for _, by := range m.a.Edges {
		if !from.has(by.From) || !to.has(by.To) || !x.leads(by) {
			continue
		}
		used = append(used, by)
		next[by.To] = true
		inner[by.Inner] = true // of a group all of them read brackets
	}
	if x.kids != nil {
		m.use(x.kids, inner)
	} else if term.IsVariable(x.term) {
		m.found(x.term, m.ofTerm(used))
	}
	return next
}

// useList finds the type of an e-variable between two sets, and returns the states to which it leads.
func (m *matcher) useList(x item, from, to states) states {
	next := m.states()
	var union regular.Automaton
	first := true
	for p := range from {
		if !from.has(p) {
			continue
		}
		ends := reached(m.states(p), m.out)
		for q := range ends {
			ends[q] = ends[q] && to.has(q)
			next[q] = next[q] || ends[q]
		}
		if !meets(ends, to) {
			continue
		}
		a := m.ofList(p, ends)
		if !first {
			a = got(regular.Union(union, a))
		}
		union, first = a, false
	}
	m.found(x.term, union)
	return next
}

// ofTerm returns the type of a term that some edges read.
func (m *matcher) ofTerm(used []regular.Edge) regular.Automaton {
	n := m.a.States
	a := regular.Automaton{States: n + 2, Start: n, Edges: append([]regular.Edge{}, m.a.Edges...)}
	a.Final = append(append(a.Final, m.a.Final...), n+1)
	for _, x := range used {
		x.From, x.To = n, n+1
		a.Edges = append(a.Edges, x)
	}
	return trimmed(a)
}

// ofList returns the type of terms that lead from a state to some others. What is in brackets is read by a copy.
func (m *matcher) ofList(start int, ends states) regular.Automaton {
	n := m.a.States
	a := regular.Automaton{States: 2 * n, Start: start}
	for q := range ends {
		if ends.has(q) {
			a.Final = append(a.Final, q)
		}
	}
	for _, q := range m.a.Final {
		a.Final = append(a.Final, n+q)
	}
	var copied []regular.Edge
	for _, x := range m.a.Edges {
		if x.Kind == regular.Nest {
			x.Inner += n
		}
		a.Edges = append(a.Edges, x)
		x.From, x.To = n+x.From, n+x.To
		copied = append(copied, x)
	}
	a.Edges = append(a.Edges, copied...)
	return trimmed(a)
}

// trimmed returns Trim of an automaton that may be too large.
func trimmed(a regular.Automaton) regular.Automaton {
	stop.Unless(a.States <= regular.MaxStates && len(a.Edges) <= regular.MaxEdges, api.ErrLarge)
	return got(regular.Trim(a))
}

// found gives a variable the type of a further occurrence.
func (m *matcher) found(v api.Term, a regular.Automaton) {
	name := term.Name(v)
	if before, ok := m.types[name]; ok {
		a = got(regular.Both(before, a))
	}
	m.types[name] = a
}
