package regular

import (
	"slices"

	"chiasmus/api"
	"chiasmus/term"
)

// Trim returns an automaton without the states and edges that accept nothing.
func Trim(a Automaton) (Automaton, api.Errno) {
	return made(func() Automaton { return a }, a)
}

// trimmed returns an automaton in memory of its own without the states and edges that accept nothing.
func (a Automaton) trimmed() Automaton {
	alive := a.alive()
	if !alive.has(a.Start) {
		return Automaton{States: 1}
	}
	isAlive := func(x Edge) bool { return alive.has(x.To) && (x.Kind != Nest || alive.has(x.Inner)) }
	reached := a.reached(isAlive)
	var kept []int
	number := numbered(&kept)
	for q := range a.States {
		if reached.has(q) {
			number(q)
		}
	}
	t := Automaton{States: len(kept)}
	t.Start = number(a.Start)
	for _, q := range a.Final {
		if reached.has(q) {
			t.Final = append(t.Final, number(q))
		}
	}
	isFresh := fresh()
	for _, x := range a.Edges {
		if !reached.has(x.From) || !isAlive(x) || !isFresh(x) {
			continue
		}
		x.From, x.To = number(x.From), number(x.To)
		if x.Kind == Nest {
			x.Inner = number(x.Inner)
		}
		x.Except = slices.Clone(x.Except)
		t.Edges = append(t.Edges, x)
	}
	return t
}

// alive returns the set of the states from which a value is accepted. Except is never so long that an edge reads nothing.
func (a Automaton) alive() set {
	s := setOf(a.Final)
	for {
		more := a.back(s, func(x Edge) bool { return x.Kind != Nest || s.has(x.Inner) })
		before := s
		s.join(more)
		if s == before {
			return s
		}
	}
}

// reached returns the set of the states to which some of the edges lead from Start, or as the inner state of one.
func (a Automaton) reached(some func(Edge) bool) set {
	var s set
	var reach func(q int)
	out := a.byState()
	reach = func(q int) {
		if s.has(q) {
			return
		}
		s.add(q)
		for _, x := range out[q] {
			if some(x) {
				reach(x.To)
				if x.Kind == Nest {
					reach(x.Inner)
				}
			}
		}
	}
	reach(a.Start)
	return s
}

// byState returns the edges from each state, in order.
func (a Automaton) byState() [][]Edge {
	out := make([][]Edge, a.States)
	for _, x := range a.Edges {
		out[x.From] = append(out[x.From], x)
	}
	return out
}

// key is what matters of an edge, but for Except.
type key struct {
	from, to, kind, inner, symbol int
	text                          string
}

// fresh returns a function that reports whether an edge is asked for the first time.
func fresh() func(Edge) bool {
	seen := map[key][][]api.Term{}
	return func(x Edge) bool {
		k := key{x.From, x.To, x.Kind, x.Inner, x.Symbol.Kind, x.Symbol.Text}
		if slices.ContainsFunc(seen[k], func(l []api.Term) bool { return term.Equal(l, x.Except) }) {
			return false
		}
		seen[k] = append(seen[k], x.Except)
		return true
	}
}
