package bychance

import (
	"chiasmus/api"
	"chiasmus/builtin"
	"chiasmus/check"
	"chiasmus/match"
	"chiasmus/term"
)

// active returns the path of the active call: of the calls without calls in them the first one in the order of the text.
func active(l []api.Term, around []int) []int {
	for i, t := range l {
		path := append(around[:len(around):len(around)], i)
		if t.Kind == api.Call && !term.Calls(t.Kids) {
			return path
		}
		if inside := active(t.Kids, path); inside != nil {
			return inside
		}
	}
	return nil
}

// simple is a run that follows the chapters word by word, for programs with conditions and blocks, too.
// Its methods panic with the error of an evaluation.
type simple struct {
	program api.Program
	store   api.Store
	made    int
	fuel    int
	tries   int
	most    int // the greatest number of tries within a step
	nested  int
}

func must(ok bool, e api.Errno) {
	if !ok {
		panic(e)
	}
}

// run evaluates a field; with an error it is the one in which this occurred.
func (x *simple) run(field []api.Term) (s api.State, e api.Errno) {
	defer func() {
		if stopped, ok := recover().(api.Errno); ok {
			s, e = api.State{Field: field, Store: x.store, Steps: x.made}, stopped
		}
	}()
	for {
		x.most = max(x.most, x.tries)
		x.tries = 0
		next, ok := x.step(field)
		if !ok {
			return api.State{Field: field, Store: x.store, Steps: x.made}, api.OK
		}
		field = next
	}
}

func (x *simple) step(field []api.Term) ([]api.Term, bool) {
	path := active(field, nil)
	if path == nil {
		return nil, false
	}
	must(x.made < x.fuel, api.ErrFuel)
	call, _ := term.At(field, path)
	nodes, _ := term.Size(call.Kids)
	must(nodes <= api.MaxNodes, api.ErrLarge)
	var result []api.Term
	store := x.store
	if i := check.Find(x.program, call.Text); i >= 0 {
		s, b := x.choose(x.program.Functions[i].Sentences, call.Kids, nil)
		result, store = under(s.Right, b), x.store
	} else {
		must(builtin.Is(call.Text), api.ErrUndefined)
		var e api.Errno
		result, store, e = builtin.Apply(call.Text, call.Kids, x.store)
		must(e == api.OK, e)
	}
	must(x.made < x.fuel, api.ErrFuel)
	next, _ := term.Put(field, path, result)
	nodes, depth := term.Size(next)
	must(nodes <= api.MaxField && depth <= api.MaxDepth, api.ErrLarge)
	x.made++
	x.store = store
	return next, true
}

// choose returns the sentence whose Right is the result, also in a block, and all bindings.
func (x *simple) choose(l []api.Sentence, value []api.Term, bound []api.Binding) (api.Sentence, []api.Binding) {
	for _, s := range l {
		if b, ok := x.try(s, value, bound); ok {
			if len(s.Block) == 0 {
				return s, b
			}
			return x.choose(s.Block, x.evaluate(under(s.Subject, b)), b)
		}
	}
	panic(api.ErrRecognition)
}

func (x *simple) try(s api.Sentence, value []api.Term, bound []api.Binding) ([]api.Binding, bool) {
	for _, m := range matches(s.Left, value, bound) {
		if len(s.Tests) > 0 {
			x.tries++
			must(x.tries <= 5000, api.ErrLarge)
		}
		if b, ok := x.tests(s.Tests, append(bound[:len(bound):len(bound)], m...)); ok {
			return b, true
		}
	}
	return nil, false
}

func (x *simple) tests(l []api.Test, bound []api.Binding) ([]api.Binding, bool) {
	if len(l) == 0 {
		return bound, true
	}
	value := x.evaluate(under(l[0].Expr, bound))
	for _, m := range matches(l[0].Pattern, value, bound) {
		x.tries++
		must(x.tries <= 5000, api.ErrLarge)
		if b, ok := x.tests(l[1:], append(bound[:len(bound):len(bound)], m...)); ok {
			return b, true
		}
	}
	return nil, false
}

func (x *simple) evaluate(field []api.Term) []api.Term {
	nodes, depth := term.Size(field)
	must(nodes <= api.MaxField && depth <= api.MaxDepth, api.ErrLarge)
	must(x.nested < 30, 140)
	x.nested++
	for {
		next, ok := x.step(field)
		if !ok {
			break
		}
		field = next
	}
	x.nested--
	nodes, _ = term.Size(field)
	must(nodes <= api.MaxNodes, api.ErrLarge)
	return field
}

// matches returns all matches. There are never more of them than match.All returns in these tests.
func matches(pattern, value []api.Term, bound []api.Binding) [][]api.Binding {
	l, e := match.All(pattern, value, bound, 1000)
	must(e == api.OK && len(l) < 1000, -1)
	return l
}
