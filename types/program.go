package types

import (
	"iter"
	"slices"

	"chiasmus/api"
	"chiasmus/check"
	"chiasmus/regular"
	"chiasmus/stop"
)

// Check returns the faults of a program with declared types; none: no recognition is impossible.
func Check(p api.Program, l []Type) ([]Fault, api.Errno) {
	if e := programError(p, l); e != api.OK {
		return nil, e
	}
	var faults []Fault
	e := stop.Attempt(func() { faults = faultsOf(p, l) })
	if e != api.OK {
		return nil, e
	}
	return faults, api.OK
}

// programError returns the error of a program with declarations.
func programError(p api.Program, l []Type) api.Errno {
	if _, e := check.Program(p); e != api.OK {
		return e
	}
	switch {
	case !check.Core(p):
		return api.ErrCore
	case !check.Pure(p):
		return api.ErrPure
	case !check.Strict(p):
		return api.ErrStrict
	case !slices.EqualFunc(p.Functions, l, isDeclared):
		return ErrDeclare
	}
	return api.OK
}

// isDeclared reports whether a declaration is right for a function.
func isDeclared(f api.Function, x Type) bool { return x.Name == f.Name && automataError(x) == api.OK }

// faultsOf returns the faults of a program. It stops with the error of an operation.
func faultsOf(p api.Program, l []Type) []Fault {
	var faults []Fault
functions:
	for i, f := range p.Functions {
		rest := l[i].Arg
		for k, c := range cases(f, &rest) {
			if x, ok := c.fault(l, l[i].Result); ok {
				x.Function, x.Sentence = i, k
				faults = append(faults, x)
			}
		}
		value, ok := least(rest)
		if !ok {
			continue functions
		}
		faults = append(faults, Fault{Function: i, Sentence: -1, Code: ErrGap, Value: value})
	}
	return faults
}

// taken is a sentence that takes values of the rest that the sentences ahead of it leave.
type taken struct {
	api.Sentence
	rest regular.Automaton
}

// cases yields the sentences of a function that take values of what is left ahead of them, with their numbers;
// behind each of them less is left.
func cases(f api.Function, rest *regular.Automaton) iter.Seq2[int, taken] {
	return func(yield func(int, taken) bool) {
		for k, s := range f.Sentences {
			own, all := ofLeft(s)
			if _, ok := least(got(regular.Both(*rest, own))); !ok {
				continue
			}
			if !yield(k, taken{s, *rest}) {
				return
			}
			if all {
				*rest = got(regular.Both(*rest, got(regular.Not(own))))
			}
		}
	}
}

// ofLeft returns the automaton of a sentence's pattern, and whether all its values match.
func ofLeft(s api.Sentence) (regular.Automaton, bool) {
	a, all, e := Left(s.Left)
	stop.Need(e)
	return a, all
}

// least returns the least value of an automaton; false, if there is none.
func least(a regular.Automaton) ([]api.Term, bool) {
	value, ok, e := regular.Least(a)
	stop.Need(e)
	return value, ok
}

// fault returns that of a sentence by itself, whose result must be of a type; false, if there is none.
func (c taken) fault(functions []Type, result regular.Automaton) (Fault, bool) {
	variables, _, e := Variables(c.Left, c.rest)
	stop.Need(e)
	right, path, value, e := Of(c.Right, variables, functions)
	if e == ErrCall {
		return Fault{Path: path, Code: ErrCall, Value: value}, true
	}
	stop.Need(e)
	value, ok := outside(right, result)
	return Fault{Code: ErrResult, Value: value}, ok
}

// Overlaps returns the pairs of sentences of a function that take a value in common: the first one in Sentence, the second one as Path, with a value.
func Overlaps(p api.Program, l []Type, function int) ([]Fault, api.Errno) {
	if e := programError(p, l); e != api.OK {
		return nil, e
	}
	if function < 0 || function >= len(p.Functions) {
		return nil, api.ErrRange
	}
	var faults []Fault
	e := stop.Attempt(func() { faults = overlaps(p.Functions[function].Sentences, l[function].Arg) })
	if e != api.OK {
		return nil, e
	}
	for i := range faults {
		faults[i].Function = function
	}
	return faults, api.OK
}

// overlaps returns those of sentences with arguments of a type. It stops with the error of an operation.
func overlaps(sentences []api.Sentence, arg regular.Automaton) []Fault {
	var numbers []int
	for i, s := range sentences {
		if !repeats(s.Left) {
			numbers = append(numbers, i)
		}
	}
	var faults []Fault
	for n, i := range numbers {
		behind := numbers[n+1:]
		if len(behind) == 0 { // no pair, and so no operation that may have an error
			break
		}
		a, _ := ofLeft(sentences[i])
		a = got(regular.Both(arg, a))
		for _, k := range behind {
			b, _ := ofLeft(sentences[k])
			if value, ok := least(got(regular.Both(a, b))); ok {
				faults = append(faults, Fault{Sentence: i, Path: []int{k}, Value: value})
			}
		}
	}
	return faults
}
