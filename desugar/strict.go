package desugar

import (
	"iter"
	"slices"

	"chiasmus/api"
	"chiasmus/check"
	"chiasmus/term"
)

// sentences yields sentences, and those of their blocks, with the names of the variables that are bound around them.
func sentences(l []api.Sentence) iter.Seq2[api.Sentence, []string] {
	return func(yield func(api.Sentence, []string) bool) { visit(l, nil, yield) }
}

func visit(l []api.Sentence, bound []string, yield func(api.Sentence, []string) bool) bool {
	for _, s := range l {
		inside := slices.Clone(bound)
		for _, pattern := range patterns(s) {
			inside = append(inside, term.Variables(pattern)...)
		}
		if !yield(s, bound) || !visit(s.Block, inside, yield) {
			return false
		}
	}
	return true
}

// patterns returns those of a sentence itself.
func patterns(s api.Sentence) [][]api.Term {
	l := [][]api.Term{s.Left}
	for _, t := range s.Tests {
		l = append(l, t.Pattern)
	}
	return l
}

// canBeSplit reports whether all patterns that are split from what follows them leave no choice:
// a choice that turns out to be wrong behind the split could not be made again.
func canBeSplit(p api.Program) bool {
	for _, f := range p.Functions {
		for s, bound := range sentences(f.Sentences) {
			if !isPlain(s) && !isStrict(s, bound) {
				return false
			}
		}
	}
	return true
}

func isStrict(s api.Sentence, bound []string) bool {
	bound = slices.Clone(bound)
	for _, pattern := range patterns(s) {
		if !check.StrictPattern(pattern, bound) {
			return false
		}
		bound = append(bound, term.Variables(pattern)...)
	}
	return true
}
