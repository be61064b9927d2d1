package check

import (
	"iter"
	"maps"
	"slices"

	"chiasmus/api"
)

// terms yields all terms of an expression, at all depths.
func terms(l []api.Term) iter.Seq[api.Term] {
	return func(yield func(api.Term) bool) { visitTerms(l, yield) }
}

func visitTerms(l []api.Term, yield func(api.Term) bool) bool {
	for _, t := range l {
		if !yield(t) || !visitTerms(t.Kids, yield) {
			return false
		}
	}
	return true
}

// expressions returns those of a sentence without those of its block.
func expressions(s api.Sentence) [][]api.Term {
	l := [][]api.Term{s.Left, s.Subject, s.Right}
	for _, t := range s.Tests {
		l = append(l, t.Expr, t.Pattern)
	}
	return l
}

// calledBy returns the set of the names that a program calls.
func calledBy(p api.Program) map[string]bool {
	names := map[string]bool{}
	for s := range sentences(p) {
		for _, l := range expressions(s) {
			for t := range terms(l) {
				if t.Kind == api.Call {
					names[t.Text] = true
				}
			}
		}
	}
	return names
}

// Called returns the names that a function calls, ascending, each once.
func Called(f api.Function) []string {
	return slices.Sorted(maps.Keys(calledBy(programOf(f.Sentences...))))
}

// Foreign returns the names that a program calls and does not have, ascending, each once.
func Foreign(p api.Program) []string {
	names := calledBy(p)
	for _, f := range p.Functions {
		delete(names, f.Name)
	}
	return slices.Sorted(maps.Keys(names))
}

// graph has the calls between the functions of a program; a name stands for the first function that has it.
type graph struct {
	first  map[string]int
	called [][]string // for each function
}

func graphOf(p api.Program) graph {
	g := graph{first: map[string]int{}}
	for i, f := range p.Functions {
		if _, ok := g.first[f.Name]; !ok {
			g.first[f.Name] = i
		}
		g.called = append(g.called, Called(f))
	}
	return g
}

// reached returns which functions are reached from names.
func (g graph) reached(from []string) []bool {
	seen := make([]bool, len(g.called))
	var grow func(names []string)
	grow = func(names []string) {
		for _, name := range names {
			if i, ok := g.first[name]; ok && !seen[i] {
				seen[i] = true
				grow(g.called[i])
			}
		}
	}
	grow(from)
	return seen
}

// Reached returns the names of the functions of a program that some functions need, themselves among them, in the order of the program.
func Reached(p api.Program, from []string) []string {
	var names []string
	for i, ok := range graphOf(p).reached(from) {
		if ok {
			names = append(names, p.Functions[i].Name)
		}
	}
	return names
}

// Recursive returns the names of the functions that need themselves, in the order of the program.
func Recursive(p api.Program) []string {
	g := graphOf(p)
	var names []string
	for i, f := range p.Functions {
		if g.reached(g.called[i])[i] {
			names = append(names, f.Name)
		}
	}
	return names
}
