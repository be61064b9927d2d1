package extend

import (
	"iter"
	"slices"

	"chiasmus/api"
	"chiasmus/apply"
	"chiasmus/match"
	"chiasmus/stop"
	"chiasmus/term"
)

// What a sentence makes of a value.
const (
	refused  = iota // it does not take it
	answered        // it takes it, and its Right is the result
	asked           // it takes it, and its block takes the value of its subject
)

// outcome is what a sentence makes of a value, and the bindings with which it takes it.
type outcome struct {
	kind     int
	index    int
	sentence api.Sentence
	bindings []api.Binding
}

// take returns how sentences take a value where variables are bound, and the result.
func (r *run) take(l []api.Sentence, value []api.Term, bound []api.Binding) (Choice, []api.Term) {
	for o := range r.outcomes(l, value, bound) {
		switch o.kind {
		case answered:
			return Choice{[]int{o.index}, o.bindings}, under(o.sentence.Right, o.bindings)
		case asked:
			value := r.evaluated(o.sentence.Subject, o.bindings)
			choice, result := r.take(o.sentence.Block, value, o.bindings)
			choice.Path = slices.Insert(choice.Path, 0, o.index)
			return choice, result
		}
	}
	stop.Need(api.ErrRecognition)
	return Choice{}, nil
}

// outcomes yields what sentences make of a value, in order. A sentence is tried when its outcome is asked for.
func (r *run) outcomes(l []api.Sentence, value []api.Term, bound []api.Binding) iter.Seq[outcome] {
	return func(yield func(outcome) bool) {
		for i, s := range l {
			o := outcome{index: i, sentence: s}
			takes := r.sentence(s, value, bound, func(all []api.Binding) bool {
				o.bindings = all
				return true
			})
			switch {
			case takes && len(s.Block) > 0:
				o.kind = asked
			case takes:
				o.kind = answered
			}
			if !yield(o) {
				return
			}
		}
	}
}

// then is what is done with all bindings so far; it reports whether they are those by which a sentence takes a value.
type then func(bound []api.Binding) bool

// sentence tries a sentence with a value. Without conditions its first match takes the value at once.
func (r *run) sentence(s api.Sentence, value []api.Term, bound []api.Binding, next then) bool {
	if len(s.Tests) == 0 {
		return each(s.Left, value, bound, next)
	}
	return each(s.Left, value, bound, func(all []api.Binding) bool {
		r.try()
		return r.tests(s.Tests, all, next)
	})
}

// tests tries the conditions of a sentence, from the first one on.
func (r *run) tests(l []api.Test, bound []api.Binding, next then) bool {
	if len(l) == 0 {
		return next(bound)
	}
	value := r.evaluated(l[0].Expr, bound)
	return each(l[0].Pattern, value, bound, func(all []api.Binding) bool {
		r.try()
		return r.tests(l[1:], all, next)
	})
}

// try counts a match that is tried.
func (r *run) try() {
	r.tries++
	stop.Unless(r.tries <= MaxTries, api.ErrLarge)
}

// each goes on with the matches of a pattern, in order, as long as there are further ones, and they are not taken.
func each(pattern, value []api.Term, bound []api.Binding, next then) bool {
	matches, code := match.Each(pattern, value, those(pattern, bound))
	stop.Need(code)
	for m := range matches {
		if next(slices.Concat(bound, m)) {
			return true
		}
	}
	return false
}

// under returns an expression under bindings.
func under(l []api.Term, bound []api.Binding) []api.Term {
	l, code := apply.Within(l, those(l, bound), api.MaxField)
	stop.Need(code)
	return l
}

// those returns the bindings of the variables of an expression, which are not too many, while all bindings may be.
func those(l []api.Term, bound []api.Binding) []api.Binding {
	if len(bound) == 0 {
		return nil
	}
	names := map[string]bool{}
	for _, name := range term.Variables(l) {
		names[name] = true
	}
	var some []api.Binding
	for _, b := range bound {
		if names[b.Var] {
			some = append(some, b)
		}
	}
	return some
}
