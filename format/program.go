package format

import (
	"slices"

	"chiasmus/api"
	"chiasmus/check"
	"chiasmus/term"
)

// table has formats by the names of their functions; their variables may have no names.
type table map[string]Format

func tableOf(l []Format) table {
	known := table{}
	for _, f := range slices.Backward(l) { // of several ones the first one is the last that is put
		known[f.Name] = f
	}
	return known
}

// least returns the form of the least format of a list; false, if nothing is returned.
func (known table) least(l []api.Term) ([]api.Term, bool) {
	var form []api.Term
	for _, t := range l {
		terms, ok := known.leastOfTerm(t)
		if !ok {
			return nil, false
		}
		form = append(form, terms...)
	}
	return merged(form), true
}

func (known table) leastOfTerm(t api.Term) ([]api.Term, bool) {
	switch t.Kind {
	case api.TVar, api.EVar:
		return some(t.Kind), true
	case api.Group:
		kids, ok := known.least(t.Kids)
		return []api.Term{group(kids)}, ok
	case api.Call:
		f, ok := known[t.Text]
		if !ok {
			return some(api.EVar), true
		}
		return f.Result, f.Returns
	}
	return some(api.SVar), true
}

// merged returns a list with one e-variable in the place of all terms from the first one to the last one.
func merged(l []api.Term) []api.Term {
	first := slices.IndexFunc(l, isOpen)
	if first < 0 {
		return l
	}
	last := len(l) - 1
	for !isOpen(l[last]) {
		last--
	}
	return slices.Replace(l, first, last+1, some(api.EVar)...)
}

// programError returns the error of a program that must be core.
func programError(p api.Program) api.Errno {
	if _, e := check.Program(p); e != api.OK {
		return e
	}
	if !check.Core(p) {
		return api.ErrCore
	}
	return api.OK
}

// Infer returns the formats of the functions of a program, in order.
func Infer(p api.Program) ([]Format, api.Errno) {
	if e := programError(p); e != api.OK {
		return nil, e
	}
	known := table{}
	for _, f := range p.Functions {
		known[f.Name] = Format{Name: f.Name, Takes: len(f.Sentences) > 0, Arg: argument(f)}
	}
	known.findResults(p)
	var l []Format
	for _, f := range p.Functions {
		x := known[f.Name]
		x.Arg, x.Result = named(x.Arg), named(x.Result)
		l = append(l, x)
	}
	return l, api.OK
}

// argument returns the form of what a function takes.
func argument(f api.Function) []api.Term {
	var arg []api.Term
	for i, s := range f.Sentences {
		left, _ := table{}.least(s.Left) // a pattern has no calls
		left = cut(left, 0)
		if i > 0 {
			left = cut(join(arg, left), 0)
		}
		arg = left
	}
	return arg
}

// findResults finds the forms of results. They only grow: lists lose terms, and terms become t-variables; so the rounds end.
func (known table) findResults(p api.Program) {
rounds:
	for {
		changed := false
		for _, f := range p.Functions {
			for _, s := range f.Sentences {
				if known.grow(f.Name, s.Right) {
					changed = true
				}
			}
		}
		if !changed {
			break rounds
		}
	}
}

// grow lets the result of a function have the values of an expression, and reports whether this changes it.
func (known table) grow(name string, right []api.Term) bool {
	result, ok := known.least(right)
	if !ok {
		return false
	}
	result = cut(result, 0)
	f := known[name]
	if f.Returns {
		result = cut(join(f.Result, result), 0)
	}
	if f.Returns && term.Equal(f.Result, result) {
		return false
	}
	f.Returns, f.Result = true, result
	known[name] = f
	return true
}

// Verify returns the function and the sentence at which formats are not right, and the error.
func Verify(p api.Program, l []Format) (function, sentence int, e api.Errno) {
	if e := programError(p); e != api.OK {
		return 0, 0, e
	}
	if !slices.EqualFunc(p.Functions, l, isFormatOf) {
		return 0, 0, ErrFormat
	}
	known := tableOf(l)
	for i, f := range p.Functions {
		for k, s := range f.Sentences {
			if e := known.sentenceError(l[i], s); e != api.OK {
				return i, k, e
			}
		}
	}
	return 0, 0, api.OK
}

// isFormatOf reports whether a format is right for a function.
func isFormatOf(f api.Function, x Format) bool {
	return x.Name == f.Name && (x.Takes || len(x.Arg) == 0) && (x.Returns || len(x.Result) == 0) &&
		firstError(x.Arg, x.Result) == api.OK && small(x.Arg, 0) && small(x.Result, 0)
}

// sentenceError returns the error of a sentence of a function with a format.
func (known table) sentenceError(f Format, s api.Sentence) api.Errno {
	left, _ := known.least(s.Left)
	if !f.Takes || !within(left, f.Arg) {
		return ErrLeft
	}
	if !known.callsFit(s.Right) {
		return ErrCall
	}
	right, ok := known.least(s.Right)
	if ok && (!f.Returns || !within(right, f.Result)) {
		return ErrResult
	}
	return api.OK
}

// callsFit reports whether the arguments of all calls of an expression are within the formats of the functions that are called.
func (known table) callsFit(l []api.Term) bool {
	for _, t := range l {
		if !known.callsFit(t.Kids) || t.Kind == api.Call && !known.callFits(t) {
			return false
		}
	}
	return true
}

func (known table) callFits(call api.Term) bool {
	f, own := known[call.Text]
	arg, ok := known.least(call.Kids)
	return !own || !ok || f.Takes && within(arg, f.Arg)
}
