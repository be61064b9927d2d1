// Package view has view fields that are open at their active call, so that a step costs as much as what it replaces,
// and not as much as the whole field.
package view

import (
	"slices"

	"chiasmus/api"
	"chiasmus/term"
)

// MaxSteps is the greatest number of steps of a state.
const MaxSteps = 1000000000

// Field is a view field: the brackets around the active call, from the outermost list on, and this call itself.
// What stands ahead of the active call has no call that is closed.
type Field struct {
	open  []bracket
	nodes int
}

// bracket is a group or a call, or, without a kind, the outermost list. It has terms without calls, and behind them
// lists of others, of which the last one comes next.
type bracket struct {
	term api.Term
	done []api.Term
	rest [][]api.Term
}

// Open returns the view field with a right expression without variables. It shares memory with it, and does not change it.
func Open(l []api.Term) *Field {
	f := &Field{open: []bracket{{rest: [][]api.Term{l}}}}
	f.nodes, _ = term.Size(l)
	f.advance()
	return f
}

// advance opens and closes brackets up to the active call, or to the end.
func (f *Field) advance() {
	for {
		b := f.innermost()
		if t, ok := b.next(); ok {
			f.open = append(f.open, bracket{term: t, rest: [][]api.Term{t.Kids}})
			continue
		}
		if b.term.Kind != api.Group {
			return
		}
		t := b.closed()
		f.open = f.open[:len(f.open)-1]
		b = f.innermost()
		b.done = append(b.done, t)
	}
}

func (f *Field) innermost() *bracket { return &f.open[len(f.open)-1] }

// next moves terms without calls to those that are done, and takes the first one with calls.
func (b *bracket) next() (api.Term, bool) {
	for len(b.rest) > 0 {
		last := len(b.rest) - 1
		l := b.rest[last]
		i := slices.IndexFunc(l, hasCalls)
		if i < 0 {
			b.done = append(b.done, l...)
			b.rest = b.rest[:last]
			continue
		}
		b.done = append(b.done, l[:i]...)
		b.rest[last] = l[i+1:]
		if i+1 == len(l) { // nothing is kept for it: so calls at the ends of results may go on for long
			b.rest = b.rest[:last]
		}
		return l[i], true
	}
	return api.Term{}, false
}

func hasCalls(t api.Term) bool { return t.Kind == api.Call || term.Calls(t.Kids) }

// closed returns the term of a bracket with the terms that are done.
func (b *bracket) closed() api.Term {
	t := b.term
	t.Kids = b.done
	return t
}

// Active returns the active call; false, if there is none.
func (f *Field) Active() (api.Term, bool) {
	b := f.innermost()
	if b.term.Kind != api.Call {
		return api.Term{}, false
	}
	return b.closed(), true
}

// Fits reports whether the field stays within the limits of view fields, if terms replace the active call.
func (f *Field) Fits(by []api.Term) bool {
	nodes, depth := term.Size(by)
	around := len(f.open) - 2
	return f.without()+nodes <= api.MaxField && around+depth <= api.MaxDepth
}

// without returns the number of the terms of the field but for the active call.
func (f *Field) without() int {
	inside, _ := term.Size(f.innermost().done)
	return f.nodes - inside - 1
}

// Replace puts terms in the place of the active call, which must be there.
func (f *Field) Replace(by []api.Term) {
	nodes, _ := term.Size(by)
	f.nodes = f.without() + nodes
	f.open = f.open[:len(f.open)-1]
	b := f.innermost()
	b.rest = append(b.rest, by)
	f.advance()
}

// Terms returns the field as an expression, which shares memory with it.
func (f *Field) Terms() []api.Term {
	var l []api.Term
	for i, b := range slices.Backward(f.open) {
		around := slices.Clone(b.done)
		if i+1 < len(f.open) {
			t := f.open[i+1].term
			t.Kids = l
			around = append(around, t)
		}
		for _, rest := range slices.Backward(b.rest) {
			around = append(around, rest...)
		}
		l = around
	}
	return l
}
