package decide

import (
	"slices"

	"chiasmus/api"
	"chiasmus/term"
)

// maxQuestions is the greatest number of nodes with questions that are made for a function, before equal ones become one.
const maxQuestions = 2000

// outcome is what matters of an edge, or of a try, which has a number alone.
type outcome struct {
	outcome, kind int
	text          string
	to            int
}

// key tells nodes apart: those with equal keys are one.
type key struct {
	place    Place
	count    int // of the outcomes that are used
	outcomes [api.MaxSentences + 3]outcome
}

// keyOf returns the key of a node.
func keyOf(n Node) key {
	k := key{place: n.Place, count: len(n.Edges) + len(n.Tries)}
	for i, e := range n.Edges {
		k.outcomes[i] = outcome{e.Outcome, e.Symbol.Kind, e.Symbol.Text, e.To}
	}
	for i, try := range n.Tries {
		k.outcomes[i].to = try
	}
	return k
}

// builder makes the nodes of a graph; followers come ahead of those that lead to them.
type builder struct {
	lefts     []left
	questions int // how many nodes with questions were made
	nodes     []Node
	numbers   map[key]int
}

// node makes the node for candidates and the places that were asked, with all that follows it, and returns its number.
func (b *builder) node(candidates []int, asked [places]bool) int {
	n, choose := b.question(candidates, asked)
	if choose == nil {
		return b.number(Node{Tries: candidates})
	}
	b.questions++
	asked[n.Place.number()] = true
	for i, e := range n.Edges {
		n.Edges[i].To = b.node(choose(e), asked)
	}
	return b.number(n)
}

// number returns the number of a node, which becomes an equal one that was made ahead.
func (b *builder) number(n Node) int {
	k := keyOf(n)
	i, made := b.numbers[k]
	if !made {
		i = len(b.nodes)
		b.numbers[k] = i
		b.nodes = append(b.nodes, n)
	}
	return i
}

// question returns the node with the question for candidates, whose edges lead nowhere yet, and the candidates that are left
// for an edge; nil, if there is no question.
func (b *builder) question(candidates []int, asked [places]bool) (Node, func(Edge) []int) {
	if len(candidates) == 0 || b.questions >= maxQuestions {
		return Node{}, nil
	}
	for i, p := range inOrder() {
		if asked[i] || b.lefts[candidates[0]].items[i].Kind == 0 {
			continue
		}
		n := Node{Place: p, Edges: b.edges(candidates, i)}
		return n, func(e Edge) []int { return narrowed(candidates, b.lefts, n, e) }
	}
	return Node{}, nil
}

// edges returns the edges of a question, which lead nowhere yet.
func (b *builder) edges(candidates []int, place int) []Edge {
	var edges []Edge
	for _, i := range candidates {
		if t := b.lefts[i].items[place]; term.IsSymbol(t) {
			edges = append(edges, Edge{Outcome: Symbolic, Symbol: api.Term{Kind: t.Kind, Text: t.Text}})
		}
	}
	slices.SortFunc(edges, compareSymbols)
	edges = slices.CompactFunc(edges, func(a, b Edge) bool { return isSame(a.Symbol, b.Symbol) })
	return append(edges, Edge{Outcome: Bracket}, Edge{Outcome: Other}, Edge{Outcome: Absent})
}

func compareSymbols(a, b Edge) int { return term.Compare([]api.Term{a.Symbol}, []api.Term{b.Symbol}) }

// graph returns the graph that begins with a node: its nodes get the numbers in the order in which a walk meets them.
func (b *builder) graph(first int) Graph {
	var g Graph
	numbers := map[int]int{}
	var meet func(old int) int
	meet = func(old int) int {
		if i, met := numbers[old]; met {
			return i
		}
		i := len(g.Nodes)
		numbers[old] = i
		n := b.nodes[old]
		g.Nodes = append(g.Nodes, n)
		for at, e := range n.Edges {
			n.Edges[at].To = meet(e.To)
		}
		return i
	}
	meet(first)
	return g
}
