package project

import (
	"slices"

	"chiasmus/api"
	"chiasmus/term"
)

// layout tells where the operations of a right plan find and leave holes and values. As they are always done in the same order,
// each of them has places of its own for what it leaves, and so nothing needs to be restored when it is done again.
type layout struct {
	steps []step
	opens []int          // by the number of a step, or of all steps: the last Open ahead of it, -1 for none
	rests int            // how many places for what is left of holes there are; 0 is that of the argument
	slots map[string]int // the places of the values of variables
	given int            // how many of these are given: they have the first places, in their order
}

// step is an operation with its places.
type step struct {
	Op
	from, to int // of the hole, ahead of the operation and behind it
	inner    int // of the new hole
	slot     int // of the variable
}

// done stands for the place of a hole that is done.
const done = -1

// arrange returns the layout of a plan, or its error.
func arrange(p Plan) (*layout, api.Errno) {
	if len(p.Ops) > maxOps || len(p.Given) > api.MaxNodes {
		return nil, api.ErrCount
	}
	l := &layout{steps: make([]step, 0, len(p.Ops)), opens: []int{-1}, rests: 1, slots: map[string]int{}, given: len(p.Given)}
	for _, name := range p.Given {
		if _, ok := term.Variable(name); !ok || !l.define(name) {
			return nil, ErrPlan
		}
	}
	holes := []int{0} // the places of the holes
	for _, o := range p.Ops {
		if !isShaped(o) || o.Hole < 0 || o.Hole >= len(holes) || holes[o.Hole] == done {
			return nil, ErrPlan
		}
		s, ok := l.add(o, holes[o.Hole])
		if !ok {
			return nil, ErrPlan
		}
		holes[o.Hole] = s.to
		if o.Kind == Enter {
			holes = append(holes, s.inner)
		}
	}
	if slices.ContainsFunc(holes, func(h int) bool { return h != done }) {
		return nil, ErrPlan
	}
	return l, api.OK
}

// isShaped reports whether an operation has a kind, and fields as this kind has them.
func isShaped(o Op) bool {
	v, _ := term.Variable(o.Var)
	symbol := []api.Term{o.Symbol}
	if o.Kind == Symbol {
		return o.Var == "" && term.IsSymbol(o.Symbol) && term.Value(symbol) == api.OK
	}
	if !term.Equal(symbol, []api.Term{{}}) {
		return false
	}
	switch o.Kind {
	case Enter:
		return o.Var == ""
	case TakeS:
		return v.Kind == api.SVar
	case TakeT:
		return v.Kind == api.TVar
	case Known:
		return v.Kind != 0
	case Empty:
		return o.Var == "" && !o.Right
	case Close, Open:
		return v.Kind == api.EVar && !o.Right
	}
	return false
}

// define gives a variable a place; false, if it has one.
func (l *layout) define(name string) bool {
	if _, known := l.slots[name]; known {
		return false
	}
	l.slots[name] = len(l.slots)
	return true
}

// place returns a new place for what is left of a hole.
func (l *layout) place() int {
	l.rests++
	return l.rests - 1
}

// add puts the step of an operation behind the others; false, if its variable has a value where it must not, or none where it must.
func (l *layout) add(o Op, from int) (step, bool) {
	s := step{Op: o, from: from, to: done}
	if o.Var != "" {
		if l.define(o.Var) == (o.Kind == Known) {
			return step{}, false
		}
		s.slot = l.slots[o.Var]
	}
	if o.Kind != Empty && o.Kind != Close {
		s.to = l.place()
	}
	if o.Kind == Enter {
		s.inner = l.place()
	}
	last := l.opens[len(l.steps)]
	if o.Kind == Open {
		last = len(l.steps)
	}
	l.opens = append(l.opens, last)
	l.steps = append(l.steps, s)
	return s, true
}

// sides are the items of a hole's pattern: those from its left end, and those from its right end, the last one first.
type sides struct{ left, right []*api.Term }

// pattern returns the pattern of a plan.
func (l *layout) pattern() []api.Term {
	holes := make([]sides, 1)
	groups := []*api.Term{{}} // those around the holes; the first one stands for the pattern itself
	for _, s := range l.steps {
		h := &holes[s.Hole]
		t := new(api.Term)
		switch s.Kind {
		case Empty:
			continue
		case Symbol:
			*t = s.Symbol
		case Enter:
			t.Kind = api.Group
		default:
			*t, _ = term.Variable(s.Var)
		}
		if s.Right {
			h.right = append(h.right, t)
		} else {
			h.left = append(h.left, t)
		}
		if s.Kind == Enter {
			holes = append(holes, sides{})
			groups = append(groups, t)
		}
	}
	for i, h := range slices.Backward(holes) { // a hole is made behind that around it
		slices.Reverse(h.right)
		for _, t := range slices.Concat(h.left, h.right) {
			groups[i].Kids = append(groups[i].Kids, *t)
		}
	}
	return groups[0].Kids
}
