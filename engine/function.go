package engine

import (
	"chiasmus/api"
	"chiasmus/apply"
	"chiasmus/decide"
	"chiasmus/field"
	"chiasmus/match"
	"chiasmus/term"
)

// function returns what a function with some sentences does.
func (x *Engine) function(l []api.Sentence) (field.Function, api.Errno) {
	g, code := decide.Build(l)
	if code != api.OK {
		return nil, code
	}
	b := builder{graph: g, counts: &x.counts, made: make([]way, len(g.Nodes))}
	left := b.way(0)
	sentences := copied(l)
	return func(arg []api.Term) ([]api.Term, api.Errno) {
		for _, i := range left(arg) {
			x.tries++
			s := sentences[i]
			if bindings, code := match.First(s.Left, arg, nil); code == api.OK {
				return apply.Within(s.Right, bindings, api.MaxField)
			}
		}
		return nil, api.ErrRecognition
	}, api.OK
}

// copied returns core sentences in memory of their own.
func copied(l []api.Sentence) []api.Sentence {
	var sentences []api.Sentence
	for _, s := range l {
		sentences = append(sentences, api.Sentence{Left: term.Copy(s.Left), Right: term.Copy(s.Right)})
	}
	return sentences
}

// way goes from a node of a graph to an end, and returns the sentences that are left for an argument.
type way func(arg []api.Term) []int

// builder makes the ways from the nodes of a graph.
type builder struct {
	graph  decide.Graph
	counts *counts
	made   []way
}

// way returns that from a node, which is made once.
func (b *builder) way(i int) way {
	if b.made[i] == nil {
		n := b.graph.Nodes[i]
		if len(n.Edges) > 0 {
			b.made[i] = b.question(n)
		} else {
			b.made[i] = func([]api.Term) []int { return n.Tries }
		}
	}
	return b.made[i]
}

// question returns the way from a node with a question.
func (b *builder) question(n decide.Node) way {
	symbols := map[symbol]way{}
	var toBracket, toOther, toAbsent way
	for _, e := range n.Edges {
		to := b.way(e.To)
		switch e.Outcome {
		case decide.Symbolic:
			symbols[symbol{e.Symbol.Kind, e.Symbol.Text}] = to
		case decide.Bracket:
			toBracket = to
		case decide.Other:
			toOther = to
		case decide.Absent:
			toAbsent = to
		}
	}
	return func(arg []api.Term) []int {
		b.counts.questions++
		to := toAbsent
		switch a := ask(arg, n.Place).(type) {
		case bracket:
			to = toBracket
		case symbol:
			if to = symbols[a]; to == nil {
				to = toOther
			}
		}
		return to(arg)
	}
}

// answer is what an argument has at a place: a symbol, a bracket or nothing.
type answer any

type symbol struct {
	kind int
	text string
}

type bracket struct{}

// ask returns the answer at a place of an argument.
func ask(arg []api.Term, p decide.Place) answer {
	e, _ := decide.Answer(arg, p)
	switch e.Outcome {
	case decide.Symbolic:
		return symbol{e.Symbol.Kind, e.Symbol.Text}
	case decide.Bracket:
		return bracket{}
	}
	return nil
}
