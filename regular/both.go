package regular

import (
	"iter"
	"slices"

	"chiasmus/api"
	"chiasmus/stop"
)

// Both returns an automaton for the values that both accept.
func Both(a, b Automaton) (Automaton, api.Errno) {
	return made(func() Automaton { return both(a, b) }, a, b)
}

// pair is a state of one automaton and one of another.
type pair [2]int

// both has pairs as its states, in the order in which they are found.
func both(a, b Automaton) Automaton {
	var c Automaton
	var pairs []pair
	number := numbered(&pairs)
	number(pair{a.Start, b.Start})
	outA, outB := a.byState(), b.byState()
	for i := 0; i < len(pairs); i++ {
		for x, y := range product(outA[pairs[i][0]], outB[pairs[i][1]]) {
			z, ok := x.and(y)
			if !ok {
				continue
			}
			z.From = i
			z.To = number(pair{x.To, y.To})
			if z.Kind == Nest {
				z.Inner = number(pair{x.Inner, y.Inner})
			}
			c.Edges = append(c.Edges, z)
			c.States = len(pairs)
			c.limit()
		}
	}
	c.States = len(pairs)
	endsA, endsB := setOf(a.Final), setOf(b.Final)
	for i, p := range pairs {
		if endsA.has(p[0]) && endsB.has(p[1]) {
			c.Final = append(c.Final, i)
		}
	}
	return c
}

// product yields each edge of a list with each one of another list.
func product(l, m []Edge) iter.Seq2[Edge, Edge] {
	return func(yield func(Edge, Edge) bool) {
		for _, x := range l {
			for _, y := range m {
				if !yield(x, y) {
					return
				}
			}
		}
	}
}

// and returns an edge, which leads nowhere yet, for the terms that two edges read; false, if there are none.
// Brackets may always have something in common: that is found later.
func (x Edge) and(y Edge) (Edge, bool) {
	switch {
	case x.Kind == One:
		return Edge{Kind: One, Symbol: x.Symbol}, y.Reads(x.Symbol)
	case y.Kind == One:
		return Edge{Kind: One, Symbol: y.Symbol}, x.Reads(y.Symbol)
	case x.Kind != y.Kind:
		return Edge{}, false
	}
	z := Edge{Kind: x.Kind, Except: ascending(slices.Concat(x.Except, y.Except))}
	stop.Unless(!crowded(z), api.ErrLarge)
	return z, true
}

// ascending sorts symbols, and leaves each of them once.
func ascending(symbols []api.Term) []api.Term {
	slices.SortFunc(symbols, compare)
	return slices.CompactFunc(symbols, func(x, y api.Term) bool { return compare(x, y) == 0 })
}
