package apply

import (
	"slices"

	"chiasmus/api"
	"chiasmus/term"
)

// tooLarge is the panic of a result beyond the limits.
type tooLarge struct{}

// extent is the size of an expression, which is counted ahead of making it.
type extent struct{ nodes, depth int }

// add counts a part of an expression that stands within so many terms.
func (x *extent) add(level int, part extent, most int) {
	x.nodes += part.nodes
	x.depth = max(x.depth, level+part.depth)
	if x.nodes > most || x.depth > api.MaxDepth {
		panic(tooLarge{})
	}
}

// replacer puts the values of a right substitution in.
type replacer struct {
	value   func(api.Term) ([]api.Term, bool) // of a variable
	extents map[string]extent                 // of the values that were asked for
	most    int                               // terms that a result may have
}

func newReplacer(l []api.Binding) replacer {
	values := map[string][]api.Term{}
	for _, b := range l {
		values[b.Var] = b.Value
	}
	value := func(t api.Term) ([]api.Term, bool) {
		v, ok := values[term.Name(t)]
		return v, ok
	}
	return replacer{value, map[string]extent{}, api.MaxNodes}
}

// to returns a right expression with the values in it, or api.ErrLarge.
func (r replacer) to(l []api.Term) (out []api.Term, e api.Errno) {
	defer func() {
		switch x := recover().(type) {
		case nil:
		case tooLarge:
			out, e = nil, api.ErrLarge
		default:
			panic(x)
		}
	}()
	r.measure(l)
	return r.replaced(l), api.OK
}

// measure counts the terms of what will be the result. The other terms of a right expression are not too deep by themselves.
func (r replacer) measure(l []api.Term) {
	var all extent
	for level, t := range preorder(l) {
		if value, ok := r.value(t); ok {
			all.add(level, r.extent(t, value), r.most)
		} else {
			all.add(level, extent{nodes: 1}, r.most)
		}
	}
}

// extent returns that of a variable's value.
func (r replacer) extent(t api.Term, value []api.Term) extent {
	name := term.Name(t)
	x, ok := r.extents[name]
	if !ok {
		x.nodes, x.depth = term.Size(value)
		r.extents[name] = x
	}
	return x
}

func (r replacer) replaced(l []api.Term) []api.Term {
	out := slices.Grow([]api.Term(nil), len(l))
	for _, t := range l {
		if value, ok := r.value(t); ok {
			out = append(out, term.Copy(value)...)
			continue
		}
		t.Kids = r.replaced(t.Kids)
		out = append(out, t)
	}
	return out
}
