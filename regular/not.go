package regular

import (
	"slices"

	"chiasmus/api"
	"chiasmus/stop"
)

// Not returns an automaton for all other values.
func Not(a Automaton) (Automaton, api.Errno) {
	return made(func() Automaton {
		n := newNegation(a)
		n.find()
		return n.automaton()
	}, a)
}

// symbols returns those of which an automaton speaks, in ascending order.
func (a Automaton) symbols() []api.Term {
	var l []api.Term
	for _, x := range a.Edges {
		if x.Kind == One {
			l = append(l, x.Symbol)
		}
		l = append(l, x.Except...)
	}
	return ascending(l)
}

// negation finds the sets of states that accept a value, the states of an automaton that reads values from the right end.
type negation struct {
	of      Automaton
	symbols []api.Term
	others  []Edge // for the symbols of each kind of which the automaton does not speak
	sets    []set
	number  func(set) int
	nests   [][]set // for each set, by inner states: the states from which brackets lead into it
	edges   []Edge  // between the sets
}

func newNegation(a Automaton) *negation {
	n := &negation{of: a, symbols: a.symbols()}
	n.number = numbered(&n.sets)
	for _, kind := range [...]int{Chars, Words, Numbers} {
		x := Edge{Kind: kind}
		for _, t := range n.symbols {
			if t.Kind == x.symbols() {
				x.Except = append(x.Except, t)
			}
		}
		stop.Unless(!crowded(x), api.ErrLarge)
		n.others = append(n.others, x)
	}
	return n
}

// find finds all sets, and the edges between them.
func (n *negation) find() {
	n.number(setOf(n.of.Final))
	for i := 0; i < len(n.sets); i++ {
		for _, t := range n.symbols {
			n.link(i, Edge{Kind: One, Symbol: t}, n.of.back(n.sets[i], func(x Edge) bool { return x.Reads(t) }))
		}
		for _, other := range n.others { // an edge for a kind reads all of them, and no other edge does
			n.link(i, other, n.of.back(n.sets[i], func(x Edge) bool { return x.Kind == other.Kind }))
		}
		n.nests = append(n.nests, n.of.nests(n.sets[i]))
		for c := range i + 1 {
			n.nest(i, c)
		}
		for r := range i {
			n.nest(r, i)
		}
	}
}

// nests returns, for each state, the states from which brackets around what it accepts lead into a set.
func (a Automaton) nests(into set) []set {
	l := make([]set, a.States)
	for _, x := range a.Edges {
		if x.Kind == Nest && into.has(x.To) {
			l[x.Inner].add(x.From)
		}
	}
	return l
}

// nest puts an edge to a set that reads brackets around what a set accepts.
func (n *negation) nest(to, inner int) {
	var from set
	for q, s := range n.nests[to] {
		if n.sets[inner].has(q) {
			from.join(s)
		}
	}
	n.link(to, Edge{Kind: Nest, Inner: inner}, from)
}

// link puts an edge from a set to another one.
func (n *negation) link(to int, x Edge, from set) {
	x.From, x.To = n.number(from), to
	n.edges = append(n.edges, x)
	Automaton{States: len(n.sets) + 1, Edges: n.edges}.limit()
}

// automaton returns the one that begins as in any set without the start.
func (n *negation) automaton() Automaton {
	start := len(n.sets)
	a := Automaton{States: start + 1, Start: start, Final: []int{0}, Edges: slices.Clone(n.edges)}
	for _, x := range n.edges {
		if !n.sets[x.From].has(n.of.Start) {
			x.From = start
			a.Edges = append(a.Edges, x)
		}
	}
	if !n.of.empty() {
		a.Final = append(a.Final, start)
	}
	return a
}
