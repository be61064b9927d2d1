// Package syntax is layer 3: texts of modules. See shared/doc/03-syntax.md.
package syntax

import (
	"slices"

	"chiasmus/api"
	"chiasmus/term"
)

// Codes of layer 3.
const (
	ErrToken  api.Errno = 50 // a token that may not stand there
	ErrEnd    api.Errno = 51 // a text that ends too early
	ErrCall   api.Errno = 52 // a call in a pattern
	ErrEmpty  api.Errno = 53 // a function or a block without sentences
	ErrNested api.Errno = 54 // too many groups, calls or blocks within each other
)

// Module is a module: the names of external functions, and functions.
type Module struct {
	Externs   []string
	Functions []api.Function
}

// Form returns the error of a module: whether it has a text.
func Form(m Module) api.Errno {
	for _, name := range m.Externs {
		if !isFunctionName(name) {
			return api.ErrForm
		}
	}
	for _, f := range m.Functions {
		if !isFunctionName(f.Name) || len(f.Sentences) == 0 {
			return api.ErrForm
		}
		if e := sentencesForm(f.Sentences, 0); e != api.OK {
			return e
		}
	}
	return api.OK
}

func isFunctionName(name string) bool {
	return term.Result([]api.Term{{Kind: api.Call, Text: name}}) == api.OK
}

// sentencesForm returns the error of sentences within so many blocks.
func sentencesForm(l []api.Sentence, blocks int) api.Errno {
	for _, s := range l {
		if e := sentenceForm(s, blocks); e != api.OK {
			return e
		}
	}
	return api.OK
}

func sentenceForm(s api.Sentence, blocks int) api.Errno {
	if e := headForm(s); e != api.OK {
		return e
	}
	if len(s.Block) == 0 {
		if len(s.Subject) > 0 {
			return api.ErrForm
		}
		return term.Result(s.Right)
	}
	if len(s.Right) > 0 {
		return api.ErrForm
	}
	if blocks >= api.MaxBlocks {
		return api.ErrDepth
	}
	if e := term.Result(s.Subject); e != api.OK {
		return e
	}
	return sentencesForm(s.Block, blocks+1)
}

// headForm returns the error of a sentence's pattern and conditions.
func headForm(s api.Sentence) api.Errno {
	if e := term.Pattern(s.Left); e != api.OK {
		return e
	}
	for _, t := range s.Tests {
		if e := term.Result(t.Expr); e != api.OK {
			return e
		}
		if e := term.Pattern(t.Pattern); e != api.OK {
			return e
		}
	}
	return api.OK
}

// Equal reports whether two modules are equal.
func Equal(a, b Module) bool {
	return slices.Equal(a.Externs, b.Externs) && slices.EqualFunc(a.Functions, b.Functions, equalFunctions)
}

func equalFunctions(a, b api.Function) bool {
	return a.Name == b.Name && a.Entry == b.Entry && slices.EqualFunc(a.Sentences, b.Sentences, equalSentences)
}

func equalSentences(a, b api.Sentence) bool {
	return term.Equal(a.Left, b.Left) && slices.EqualFunc(a.Tests, b.Tests, equalTests) &&
		term.Equal(a.Right, b.Right) && term.Equal(a.Subject, b.Subject) &&
		slices.EqualFunc(a.Block, b.Block, equalSentences)
}

func equalTests(a, b api.Test) bool {
	return term.Equal(a.Expr, b.Expr) && term.Equal(a.Pattern, b.Pattern)
}
