// Package check is layer 4: static rules of programs. See shared/doc/04-check.md.
package check

import (
	"iter"
	"slices"

	"chiasmus/api"
	"chiasmus/term"
)

// Codes of layer 4.
const (
	ErrName    api.Errno = 60 // a function whose name is none
	ErrUnbound api.Errno = 61 // a variable that no pattern ahead of it has
	ErrCalls   api.Errno = 62 // a call in a pattern
	ErrBlock   api.Errno = 63 // a sentence with a result and a block, or a subject without a block
)

// maxProgram is the limit of the sentences of a program, those of blocks among them.
const maxProgram = 3000

// Fault is where an error is: the index of a function, and the indices of a sentence, and of those of blocks in it, that lead to a sentence.
type Fault struct {
	Function int
	Path     []int
}

// Program returns the place and the error of a program.
func Program(p api.Program) (Fault, api.Errno) {
	if len(p.Functions) > api.MaxFunctions || tooManySentences(p) {
		return Fault{}, api.ErrCount
	}
	names := map[string]bool{}
	for i, f := range p.Functions {
		if e := functionError(f, names); e != api.OK {
			return Fault{Function: i}, e
		}
		names[f.Name] = true
		if at, e := firstError(i, f.Sentences, nil); e != api.OK {
			return at, e
		}
	}
	return Fault{}, api.OK
}

func tooManySentences(p api.Program) bool {
	n := 0
	for range sentences(p) {
		n++
		if n > maxProgram {
			return true
		}
	}
	return false
}

// functionError returns the error of a function itself, behind functions with some names.
func functionError(f api.Function, ahead map[string]bool) api.Errno {
	if term.Result([]api.Term{{Kind: api.Call, Text: f.Name}}) != api.OK {
		return ErrName
	}
	if ahead[f.Name] {
		return api.ErrDuplicate
	}
	if len(f.Sentences) == 0 || len(f.Sentences) > api.MaxSentences {
		return api.ErrCount
	}
	return api.OK
}

// Sentence returns the error of a sentence where variables are bound.
func Sentence(s api.Sentence, bound []string) api.Errno {
	_, e := firstError(0, []api.Sentence{s}, bound)
	return e
}

// setOf returns the set of some names.
func setOf(names []string) map[string]bool {
	set := map[string]bool{}
	for _, name := range names {
		set[name] = true
	}
	return set
}

// places yields the sentences of a function with their places, each ahead of those of its block.
// A place holds for one turn of the loop: the next one has its Path in the same memory.
func places(function int, l []api.Sentence) iter.Seq2[Fault, api.Sentence] {
	return func(yield func(Fault, api.Sentence) bool) { visit(Fault{Function: function}, l, yield) }
}

func visit(around Fault, l []api.Sentence, yield func(Fault, api.Sentence) bool) bool {
	at := Fault{Function: around.Function, Path: append(around.Path, 0)}
	for i, s := range l {
		at.Path[len(at.Path)-1] = i
		if !yield(at, s) || !visit(at, s.Block, yield) {
			return false
		}
	}
	return true
}

// sentences yields all sentences of a program.
func sentences(p api.Program) iter.Seq[api.Sentence] {
	return func(yield func(api.Sentence) bool) {
		for i, f := range p.Functions {
			for _, s := range places(i, f.Sentences) {
				if !yield(s) {
					return
				}
			}
		}
	}
}

// Core reports whether no sentence of a program has conditions or a block.
func Core(p api.Program) bool {
	for s := range sentences(p) {
		if len(s.Tests) > 0 || len(s.Subject) > 0 || len(s.Block) > 0 {
			return false
		}
	}
	return true
}

// Pure reports whether all calls of a program are of its own functions.
func Pure(p api.Program) bool { return len(Foreign(p)) == 0 }

// Find returns the index of a function, -1 for none.
func Find(p api.Program, name string) int {
	return slices.IndexFunc(p.Functions, func(f api.Function) bool { return f.Name == name })
}
