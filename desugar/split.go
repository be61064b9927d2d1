package desugar

import (
	"strconv"

	"chiasmus/api"
)

// split is a sentence that is not plain, with the names of the functions for its conditions and its block,
// and of that for the sentences behind it; this is empty, if there are none.
type split struct {
	api.Sentence
	names  []string
	rest   string
	around context
}

// known returns the context in which the condition with an index is; that of the block is behind all conditions.
func (s split) known(index int) context { return s.around.with(patterns(s.Sentence)[:index+1]...) }

// goOn returns the call for the condition with an index, or for the block; behind them the result.
func (s split) goOn(index int) []api.Term {
	if index == len(s.names) {
		return s.Right
	}
	l := s.Subject
	if index < len(s.Tests) {
		l = s.Tests[index].Expr
	}
	return call(s.names[index], s.known(index).ahead(l))
}

func call(name string, l []api.Term) []api.Term {
	return []api.Term{{Kind: api.Call, Text: name, Kids: l}}
}

// entrance returns the sentences that take an argument to the first condition, or to the block, and to the rest.
func (s split) entrance() []api.Sentence {
	l := []api.Sentence{{Left: s.around.ahead(s.Left), Right: s.goOn(0)}}
	if s.rest != "" {
		whole := []api.Term{eVar(1)}
		l = append(l, api.Sentence{Left: whole, Right: call(s.rest, whole)})
	}
	return l
}

// test returns the sentences of the function for the condition with an index.
func (s split) test(index int) []api.Sentence {
	l := []api.Sentence{{Left: s.known(index).ahead(s.Tests[index].Pattern), Right: s.goOn(index + 1)}}
	if s.rest != "" {
		l = append(l, s.otherwise(index))
	}
	return l
}

// otherwise returns the sentence that takes the argument to the rest, if the condition with an index does not hold:
// of the patterns ahead it needs no more than what they have matched.
func (s split) otherwise(index int) api.Sentence {
	around := tVars(1, len(s.around))
	left := append(around, api.Term{Kind: api.Group, Kids: []api.Term{eVar(1)}})
	left = append(left, tVars(len(s.around)+1, len(s.around)+index)...)
	return api.Sentence{
		Left:  append(left, eVar(2)),
		Right: call(s.rest, append(tVars(1, len(s.around)), eVar(1))),
	}
}

func eVar(number int) api.Term { return api.Term{Kind: api.EVar, Text: strconv.Itoa(number)} }

// tVars returns the t-variables with the numbers from first to last.
func tVars(first, last int) []api.Term {
	var l []api.Term
	for n := first; n <= last; n++ {
		l = append(l, api.Term{Kind: api.TVar, Text: strconv.Itoa(n)})
	}
	return l
}
