package check

import (
	"iter"
	"maps"

	"chiasmus/api"
	"chiasmus/term"
)

// Strict reports whether all patterns of a program are strict.
func Strict(p api.Program) bool {
	for _, f := range p.Functions {
		if !strictSentences(f.Sentences, setOf(nil)) {
			return false
		}
	}
	return true
}

func strictSentences(l []api.Sentence, around map[string]bool) bool {
	for _, s := range l {
		bound := maps.Clone(around)
		if !bindStrict(s.Left, bound) {
			return false
		}
		for _, t := range s.Tests {
			if !bindStrict(t.Pattern, bound) {
				return false
			}
		}
		if !strictSentences(s.Block, bound) {
			return false
		}
	}
	return true
}

// bindStrict reports whether a pattern is strict, and binds its variables.
func bindStrict(l []api.Term, bound map[string]bool) bool {
	ok := strictPattern(l, bound)
	for _, name := range term.Variables(l) {
		bound[name] = true
	}
	return ok
}

// StrictPattern reports whether a pattern is strict, where variables are bound.
func StrictPattern(l []api.Term, bound []string) bool { return strictPattern(l, setOf(bound)) }

func strictPattern(l []api.Term, bound map[string]bool) bool {
	seen := map[string]bool{}
	var strictList func(l []api.Term) bool
	strictList = func(l []api.Term) bool {
		open := 0
		for _, t := range l {
			name := term.Name(t)
			if manifold(t) && !bound[name] {
				if seen[name] {
					return false
				}
				seen[name] = true
				if t.Kind == api.EVar {
					open++
				}
			}
			if !strictList(t.Kids) {
				return false
			}
		}
		return open <= 1
	}
	return strictList(l)
}

// manifold reports whether a term is a variable that may stand for more than a symbol.
func manifold(t api.Term) bool { return t.Kind == api.TVar || t.Kind == api.EVar }

// Linear reports whether each t- and e-variable of a sentence's patterns is used at most once behind them.
func Linear(s api.Sentence) bool {
	seen := map[string]bool{}
	for l := range used(s) {
		for t := range terms(l) {
			if !manifold(t) {
				continue
			}
			if seen[term.Name(t)] {
				return false
			}
			seen[term.Name(t)] = true
		}
	}
	return true
}

// used yields the expressions of a sentence, and of those of its block, that are no patterns.
func used(s api.Sentence) iter.Seq[[]api.Term] {
	return func(yield func([]api.Term) bool) {
		for s := range sentences(programOf(s)) {
			for _, t := range s.Tests {
				if !yield(t.Expr) {
					return
				}
			}
			if !yield(s.Subject) || !yield(s.Right) {
				return
			}
		}
	}
}

// programOf returns a program with some sentences.
func programOf(l ...api.Sentence) api.Program {
	return api.Program{Functions: []api.Function{{Sentences: l}}}
}
