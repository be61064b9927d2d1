package regular

import (
	"iter"
	"slices"

	"chiasmus/api"
	"chiasmus/term"
)

// Any returns an automaton that accepts all values.
func Any() Automaton {
	a := Automaton{States: 1, Final: []int{0}}
	for _, kind := range [...]int{Chars, Words, Numbers, Nest} {
		a.Edges = append(a.Edges, Edge{Kind: kind})
	}
	return a
}

// Exactly returns an automaton that accepts one value.
func Exactly(value []api.Term) (Automaton, api.Errno) {
	if e := term.Value(value); e != api.OK {
		return Automaton{}, e
	}
	return made(func() Automaton {
		var a Automaton
		a.list(value)
		slices.Sort(a.Final)
		return a
	})
}

// list puts states and edges for a list to an automaton, and returns the first state of the list.
func (a *Automaton) list(l []api.Term) int {
	first := a.States
	a.States += len(l) + 1
	a.Final = append(a.Final, first+len(l))
	for i, t := range l {
		x := Edge{From: first + i, To: first + i + 1, Kind: One, Symbol: t}
		if t.Kind == api.Group {
			x.Kind, x.Symbol, x.Inner = Nest, api.Term{}, a.States
		}
		a.Edges = append(a.Edges, x)
		if t.Kind == api.Group {
			a.list(t.Kids)
		}
	}
	return first
}

// behind returns a function that moves the numbers of an edge behind so many states, and those of what is in brackets behind others.
func behind(states, inner int) func(Edge) Edge {
	return func(x Edge) Edge {
		x.From += states
		x.To += states
		if x.Kind == Nest {
			x.Inner += inner
		}
		return x
	}
}

// moved yields the edges of an automaton with other numbers.
func (a Automaton) moved(move func(Edge) Edge) iter.Seq[Edge] {
	return func(yield func(Edge) bool) {
		for _, x := range a.Edges {
			if !yield(move(x)) {
				return
			}
		}
	}
}

// starts yields edges from a state like those from the start of an automaton with other numbers.
func (a Automaton) starts(from int, move func(Edge) Edge) iter.Seq[Edge] {
	return func(yield func(Edge) bool) {
		for _, x := range a.Edges {
			if x.From != a.Start {
				continue
			}
			x = move(x)
			x.From = from
			if !yield(x) {
				return
			}
		}
	}
}

// add puts edges to an automaton, until there are too many.
func (a *Automaton) add(edges ...iter.Seq[Edge]) {
	for _, some := range edges {
		for x := range some {
			a.Edges = append(a.Edges, x)
			a.limit()
		}
	}
}

// end puts the final states of an automaton behind so many states to those of this one.
func (a *Automaton) end(of Automaton, states int) {
	for _, q := range of.Final {
		a.Final = append(a.Final, states+q)
	}
}

// empty reports whether an automaton accepts the empty value.
func (a Automaton) empty() bool { return slices.Contains(a.Final, a.Start) }

// Wrap returns an automaton for a single pair of brackets around a value.
func Wrap(a Automaton) (Automaton, api.Errno) {
	return made(func() Automaton {
		n := a.States
		w := Automaton{States: n + 2, Start: n, Final: append(slices.Clone(a.Final), n+1)}
		w.Edges = append(slices.Clone(a.Edges), Edge{From: n, To: n + 1, Kind: Nest, Inner: a.Start})
		return w
	}, a)
}

// Concat returns an automaton for a value of one followed by a value of the other.
// What is in brackets is read by a copy of the first one, since there the first one's final states do not lead on.
func Concat(a, b Automaton) (Automaton, api.Errno) {
	return made(func() Automaton {
		n := a.States
		second := behind(2*n, 2*n)
		c := Automaton{States: 2*n + b.States, Start: a.Start}
		c.limit()
		c.add(a.moved(behind(0, n)), a.moved(behind(n, n)), b.moved(second))
		for _, f := range a.Final {
			c.add(b.starts(f, second))
		}
		if b.empty() {
			c.end(a, 0)
		}
		c.end(a, n)
		c.end(b, 2*n)
		return c
	}, a, b)
}

// Star returns an automaton for any number of values, one behind the other. It has a copy for what is in brackets, as Concat has.
func Star(a Automaton) (Automaton, api.Errno) {
	return made(func() Automaton {
		n := a.States
		first := behind(1, n+1)
		s := Automaton{States: 2*n + 1, Final: []int{0}}
		s.limit()
		s.add(a.starts(0, first), a.moved(first), a.moved(behind(n+1, n+1)))
		for _, f := range a.Final {
			s.add(a.starts(f+1, first))
		}
		s.end(a, 1)
		s.end(a, n+1)
		return s
	}, a)
}

// Union returns an automaton for the values of both.
func Union(a, b Automaton) (Automaton, api.Errno) {
	return made(func() Automaton {
		n := a.States
		first, second := behind(1, 1), behind(n+1, n+1)
		u := Automaton{States: n + b.States + 1}
		u.add(a.starts(0, first), b.starts(0, second), a.moved(first), b.moved(second))
		if a.empty() || b.empty() {
			u.Final = []int{0}
		}
		u.end(a, 1)
		u.end(b, n+1)
		return u
	}, a, b)
}
