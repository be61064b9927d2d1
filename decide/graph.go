package decide

import (
	"iter"
	"slices"

	"chiasmus/api"
	"chiasmus/term"
)

const (
	maxNodes = 6000
	maxEdges = 60
)

// sentencesError returns the error of sentences.
func sentencesError(l []api.Sentence) api.Errno {
	if len(l) > api.MaxSentences {
		return api.ErrCount
	}
	for _, s := range l {
		if e := term.Pattern(s.Left); e != api.OK {
			return e
		}
	}
	return api.OK
}

// all returns the numbers of all sentences.
func all(l []api.Sentence) []int {
	numbers := make([]int, len(l))
	for i := range numbers {
		numbers[i] = i
	}
	return numbers
}

// narrowed returns those of some sentences that may give an edge's answer to a node's question.
func narrowed(numbers []int, lefts []left, n Node, e Edge) []int {
	var l []int
	for _, i := range numbers {
		if lefts[i].mayGive(n, e) {
			l = append(l, i)
		}
	}
	return l
}

// graphError returns the error of a graph by itself.
func graphError(g Graph) api.Errno {
	if len(g.Nodes) > maxNodes || slices.ContainsFunc(g.Nodes, isLarge) {
		return api.ErrCount
	}
	if len(g.Nodes) == 0 {
		return ErrGraph
	}
	for _, n := range g.Nodes {
		if !g.isRight(n) {
			return ErrGraph
		}
	}
	w := newWalk(g)
	for i := range g.Nodes {
		if !w.visit(i) {
			return ErrGraph
		}
	}
	return api.OK
}

// isLarge reports whether a node has too many edges or tries.
func isLarge(n Node) bool { return len(n.Edges) > maxEdges || len(n.Tries) > api.MaxSentences }

// isRight reports whether a node is as nodes have to be.
func (g Graph) isRight(n Node) bool {
	if len(n.Edges) == 0 {
		return n.Place == Place{} && ascend(n.Tries)
	}
	return n.Place.isRight() && len(n.Tries) == 0 && g.areRight(n.Edges)
}

// ascend reports whether numbers are from 0 on, each one above that ahead of it.
func ascend(l []int) bool {
	last := -1
	for _, i := range l {
		if i <= last {
			return false
		}
		last = i
	}
	return true
}

// areRight reports whether edges are as those of a node have to be.
func (g Graph) areRight(edges []Edge) bool {
	symbols := len(edges) - 3
	if symbols < 0 {
		return false
	}
	for i, e := range edges {
		if e.To < 0 || e.To >= len(g.Nodes) {
			return false
		}
		symbol := []api.Term{e.Symbol}
		switch {
		case i >= symbols:
			if e.Outcome != [...]int{Bracket, Other, Absent}[i-symbols] || !term.Equal(symbol, []api.Term{{}}) {
				return false
			}
		case e.Outcome != Symbolic || !term.IsSymbol(e.Symbol) || term.Value(symbol) != api.OK:
			return false
		case i > 0 && compareSymbols(edges[i-1], e) >= 0:
			return false
		}
	}
	return true
}

// States of nodes on a walk.
const (
	unmet = iota
	begun // a walk from it goes on
	ended
)

// walk goes along all ways from some nodes.
type walk struct {
	graph   Graph
	states  []int
	longest []int // the greatest number of questions on a way from each node that has ended
	met     int
}

func newWalk(g Graph) *walk {
	return &walk{graph: g, states: make([]int, len(g.Nodes)), longest: make([]int, len(g.Nodes))}
}

// visit goes along all ways from a node; false, if one of them comes back to a node.
func (w *walk) visit(i int) bool {
	if w.states[i] != unmet {
		return w.states[i] == ended
	}
	w.states[i] = begun
	w.met++
	for _, e := range w.graph.Nodes[i].Edges {
		if !w.visit(e.To) {
			return false
		}
		w.longest[i] = max(w.longest[i], w.longest[e.To]+1)
	}
	w.states[i] = ended
	return true
}

// pass returns the end to which the answers of an argument lead, and how many questions were asked.
func (g Graph) pass(arg []api.Term) (end Node, questions int) {
	n := g.Nodes[0]
	for len(n.Edges) > 0 {
		n = g.Nodes[n.follow(answer(arg, n.Place))]
		questions++
	}
	return n, questions
}

// ways yields, for each way from the node 0 to an end, those of some sentences that may give all of its answers, and the end.
func (g Graph) ways(numbers []int, lefts []left) iter.Seq2[[]int, Node] {
	return func(yield func([]int, Node) bool) { g.waysFrom(g.Nodes[0], numbers, lefts, yield) }
}

func (g Graph) waysFrom(n Node, numbers []int, lefts []left, yield func([]int, Node) bool) bool {
	if len(n.Edges) == 0 {
		return yield(numbers, n)
	}
	for _, e := range n.Edges {
		if !g.waysFrom(g.Nodes[e.To], narrowed(numbers, lefts, n, e), lefts, yield) {
			return false
		}
	}
	return true
}

// few is how many numbers are compared at once.
const few = 2

// covers reports whether numbers contain all of others; both ascend, and are often equal.
func covers(tries, needed []int) bool {
	for len(tries) >= few && len(needed) >= few && [few]int(tries) == [few]int(needed) {
		tries, needed = tries[few:], needed[few:]
	}
	for _, i := range needed {
		if !slices.Contains(tries, i) {
			return false
		}
	}
	return true
}
