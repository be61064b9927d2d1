package format

import (
	"slices"

	"chiasmus/api"
	"chiasmus/term"
)

// list is a list of a form: the terms ahead of its e-variable, and those behind it.
// One that is not open has all its terms in front.
type list struct {
	open        bool
	front, rear []api.Term
}

func split(l []api.Term) list {
	i := slices.IndexFunc(l, isOpen)
	if i < 0 {
		return list{front: l}
	}
	return list{open: true, front: l[:i], rear: l[i+1:]}
}

func isOpen(t api.Term) bool { return t.Kind == api.EVar }

// terms returns a list in memory of its own.
func (l list) terms() []api.Term {
	if !l.open {
		return slices.Clone(l.front)
	}
	return slices.Concat(l.front, some(api.EVar), l.rear)
}

// some returns a list with a variable without a name.
func some(kind int) []api.Term { return []api.Term{{Kind: kind}} }

func group(kids []api.Term) api.Term { return api.Term{Kind: api.Group, Kids: kids} }

// fixed returns how many terms each value has at least.
func (l list) fixed() int { return len(l.front) + len(l.rear) }

// behind returns what joins from the right, where so many terms have joined from the left.
func (l list) behind(k int) []api.Term {
	if l.open {
		return l.rear
	}
	return l.front[k:]
}

// right returns the terms that can be counted from the right end.
func (l list) right() []api.Term { return l.behind(0) }

// join returns the least form of the values of two lists.
func join(f, g []api.Term) []api.Term {
	a, b := split(f), split(g)
	if !a.open && !b.open && len(f) == len(g) {
		return joined(len(f), func(i int) (api.Term, api.Term) { return f[i], g[i] })
	}
	k := min(len(a.front), len(b.front))
	x, y := a.behind(k), b.behind(k)
	m := min(len(x), len(y))
	front := joined(k, func(i int) (api.Term, api.Term) { return a.front[i], b.front[i] })
	rear := joined(m, func(i int) (api.Term, api.Term) { return x[len(x)-m+i], y[len(y)-m+i] })
	return list{open: true, front: front, rear: rear}.terms()
}

// joined returns the joins of so many pairs of terms.
func joined(count int, pair func(int) (api.Term, api.Term)) []api.Term {
	l := make([]api.Term, count)
	for i := range l {
		l[i] = joinTerms(pair(i))
	}
	return l
}

func joinTerms(x, y api.Term) api.Term {
	if x.Kind == y.Kind && x.Kind == api.Group {
		return group(join(x.Kids, y.Kids))
	}
	if x.Kind == y.Kind && x.Kind == api.SVar {
		return api.Term{Kind: api.SVar}
	}
	return api.Term{Kind: api.TVar}
}

// maxRear is how many terms behind an e-variable stay, if there are too many in front.
const maxRear = 5

// cut returns a form with more values that is small, if it stands within so many groups.
// What is left out of a list is left out first: it may be much.
func cut(f []api.Term, level int) []api.Term {
	l := split(f)
	if len(f) > MaxItems {
		l = l.shorter()
	}
	out := l.terms()
	for i, t := range out {
		switch {
		case t.Kind != api.Group:
		case level == MaxLevels:
			out[i] = api.Term{Kind: api.TVar}
		default:
			out[i] = group(cut(t.Kids, level+1))
		}
	}
	return out
}

// shorter returns an open list of MaxItems terms with the values of a longer one.
func (l list) shorter() list {
	rear := l.right()
	front := l.front[:min(len(l.front), MaxItems-1-min(len(rear), maxRear))]
	return list{open: true, front: front, rear: rear[len(rear)-(MaxItems-1-len(front)):]}
}

// small reports whether a form that stands within so many groups is small.
func small(f []api.Term, level int) bool {
	tooLarge := func(t api.Term) bool { return t.Kind == api.Group && (level == MaxLevels || !small(t.Kids, level+1)) }
	return len(f) <= MaxItems && !slices.ContainsFunc(f, tooLarge)
}

// within reports whether each value of a form is one of another form, as their lists show it.
func within(f, g []api.Term) bool {
	a, b := split(f), split(g)
	if !b.open {
		return !a.open && slices.EqualFunc(f, g, termWithin)
	}
	return a.fixed() >= b.fixed() && covers(a.front, b.front, fromLeft) && covers(a.right(), b.rear, fromRight)
}

// Ways to count the terms of a list.
func fromLeft(_ []api.Term, i int) int  { return i }
func fromRight(l []api.Term, i int) int { return len(l) - 1 - i }

// covers reports whether the terms of the second list have those of the first one within them, counted from one end;
// where this has no more terms there may be any.
func covers(inner, outer []api.Term, place func([]api.Term, int) int) bool {
	for i := range outer {
		t := outer[place(outer, i)]
		if i >= len(inner) {
			if t.Kind != api.TVar {
				return false
			}
		} else if !termWithin(inner[place(inner, i)], t) {
			return false
		}
	}
	return true
}

func termWithin(x, y api.Term) bool {
	switch y.Kind {
	case api.TVar:
		return true
	case api.Group:
		return x.Kind == api.Group && within(x.Kids, y.Kids)
	}
	return x.Kind == y.Kind
}

// has reports whether a form has a value.
func has(f, value []api.Term) bool {
	l := split(f)
	if len(value) < l.fixed() || !l.open && len(value) > l.fixed() {
		return false
	}
	ends := value[len(value)-len(l.rear):]
	return slices.EqualFunc(l.front, value[:len(l.front)], hasTerm) && slices.EqualFunc(l.rear, ends, hasTerm)
}

func hasTerm(t, value api.Term) bool {
	switch t.Kind {
	case api.SVar:
		return term.IsSymbol(value)
	case api.Group:
		return value.Kind == api.Group && has(t.Kids, value.Kids)
	}
	return true
}
