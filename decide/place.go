package decide

import (
	"iter"

	"chiasmus/api"
)

// places is the number of places.
const places = 2 * Depth

// isRight reports whether it is a place that a graph may ask for.
func (p Place) isRight() bool { return 0 <= p.Index && p.Index < Depth }

// number returns the number of a place in the order in which graphs ask for them.
func (p Place) number() int {
	if p.Right {
		return 2*p.Index + 1
	}
	return 2 * p.Index
}

// inOrder yields the places by their numbers.
func inOrder() iter.Seq2[int, Place] {
	return func(yield func(int, Place) bool) {
		for i := range places {
			if !yield(i, Place{Index: i / 2, Right: i%2 == 1}) {
				return
			}
		}
	}
}

// item returns the term of a list at a place; false, if there is none.
func (p Place) item(l []api.Term) (api.Term, bool) {
	if p.Index >= len(l) {
		return api.Term{}, false
	}
	if p.Right {
		return l[len(l)-1-p.Index], true
	}
	return l[p.Index], true
}

// answer returns the edge with the answer of an argument at a place.
func answer(arg []api.Term, p Place) Edge {
	t, ok := p.item(arg)
	switch {
	case !ok:
		return Edge{Outcome: Absent}
	case t.Kind == api.Group:
		return Edge{Outcome: Bracket}
	}
	return Edge{Outcome: Symbolic, Symbol: api.Term{Kind: t.Kind, Text: t.Text}}
}

// isSame reports whether two symbols are equal.
func isSame(a, b api.Term) bool { return a.Kind == b.Kind && a.Text == b.Text }

// left is what a graph may know of a pattern.
type left struct {
	fixed int              // the number of items that are no e-variables
	open  bool             // there is an e-variable
	items [places]api.Term // those at the places, with no kind where there is none
}

// leftOf returns what a graph may know of a pattern.
func leftOf(pattern []api.Term) left {
	var l left
	for _, t := range pattern {
		if t.Kind == api.EVar {
			l.open = true
		} else {
			l.fixed++
		}
	}
	var hidden [2]bool // behind an e-variable, as seen from the left end and from the right end
	for i, p := range inOrder() {
		t, _ := p.item(pattern)
		if t.Kind == api.EVar {
			hidden[i%2] = true
		}
		if !hidden[i%2] {
			l.items[i] = t
		}
	}
	return l
}

// leftsOf returns what graphs may know of the sentences.
func leftsOf(l []api.Sentence) []left {
	lefts := make([]left, len(l))
	for i, s := range l {
		lefts[i] = leftOf(s.Left)
	}
	return lefts
}

// mayGive reports whether an argument that is taken may give an edge's answer to a node's question.
func (l left) mayGive(n Node, e Edge) bool {
	enough := l.fixed > n.Place.Index
	if e.Outcome == Absent {
		return !enough
	}
	if !enough && !l.open {
		return false
	}
	item := l.items[n.Place.number()]
	switch {
	case item.Kind == 0 || item.Kind == api.TVar:
		return true
	case item.Kind == api.Group:
		return e.Outcome == Bracket
	case item.Kind == api.SVar:
		return e.Outcome != Bracket
	case e.Outcome == Symbolic:
		return isSame(item, e.Symbol)
	}
	return e.Outcome == Other && !n.names(item)
}

// names reports whether an edge of a node has a symbol.
func (n Node) names(t api.Term) bool {
	for _, e := range n.Edges {
		if e.Outcome == Symbolic && isSame(e.Symbol, t) {
			return true
		}
	}
	return false
}

// follow returns where an answer leads to.
func (n Node) follow(a Edge) int {
	other := 0
	for _, e := range n.Edges {
		if e.Outcome == a.Outcome && isSame(e.Symbol, a.Symbol) {
			return e.To
		}
		if e.Outcome == Other {
			other = e.To
		}
	}
	return other
}
