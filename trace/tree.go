package trace

import (
	"iter"

	"chiasmus/api"
	"chiasmus/term"
)

// Node is a call of a run: the step in which it was replaced, the steps of the calls in its replacement, and its value.
type Node struct {
	Step  int
	Kids  []int
	Value []api.Term
	Ended bool
}

// Tree returns the calls of a run as a tree: a node for each step.
func Tree(p api.Program, e []api.Term, fuel int) ([]Node, api.Errno) {
	r, code := recorded(p, e, fuel)
	return r.tree(), code
}

// tree returns the nodes of the steps that were made.
func (r *Recorder) tree() []Node {
	if r == nil {
		return nil
	}
	nodes := make([]Node, r.events)
	origins := map[place]int{} // the steps that brought the calls of the field
	for k, m := range r.moments() {
		nodes[k].Step = k
		at := placeOf(m.ahead.state.Field, m.path)
		if origin, ok := origins[at]; ok {
			nodes[origin].Kids = append(nodes[origin].Kids, k)
			delete(origins, at)
		}
		for place := range callsInstead(m.event.Result, at, len(m.path)) {
			origins[place] = k
		}
	}
	for k, m := range r.backward() { // steps are behind those that brought their calls
		nodes[k].Value, nodes[k].Ended = valueOf(m.event.Result, nodes, nodes[k].Kids)
	}
	return nodes
}

// valueOf returns what an expression becomes when its calls are replaced by some of the nodes, in this order; false, if one is not ended.
func valueOf(l []api.Term, nodes []Node, kids []int) ([]api.Term, bool) {
	next := func() (Node, bool) {
		if len(kids) == 0 {
			return Node{}, false
		}
		kid := nodes[kids[0]]
		kids = kids[1:]
		return kid, kid.Ended
	}
	return replaced(l, next)
}

// replaced returns an expression in which each call, behind those in it, is replaced by the value of the next node.
func replaced(l []api.Term, next func() (Node, bool)) ([]api.Term, bool) {
	var out []api.Term
	for _, t := range l {
		kids, ok := replaced(t.Kids, next)
		if !ok {
			return nil, false
		}
		if t.Kind != api.Call {
			t.Kids = kids
			out = append(out, t)
			continue
		}
		node, ok := next()
		if !ok {
			return nil, false
		}
		out = append(out, term.Copy(node.Value)...)
	}
	return out, true
}

// place is that of a call in a view field, as far as the call is deep: how many terms there are in the outermost list from the one on
// that it is in, then in the list within this term, and so on. So steps ahead of a call do not change its place.
type place [api.MaxDepth]int

// placeOf returns the place of the term with a path.
func placeOf(l []api.Term, path []int) place {
	var p place
	for depth, i := range path {
		p[depth] = len(l) - i
		l = l[i].Kids
	}
	return p
}

// callsInstead yields the places of the calls of an expression that stands instead of a call, whose path has a length.
func callsInstead(l []api.Term, at place, length int) iter.Seq[place] {
	return func(yield func(place) bool) { visit(l, at, length-1, at[length-1]-1, yield) }
}

// visit yields the places of the calls of a list at a depth, with so many terms behind it, around which are the terms of a place.
func visit(l []api.Term, at place, depth, behind int, yield func(place) bool) bool {
	for i, t := range l {
		if t.Kind != api.Group && t.Kind != api.Call {
			continue
		}
		at[depth] = len(l) - i + behind
		if t.Kind == api.Call && !yield(at) || !visit(t.Kids, at, depth+1, 0, yield) {
			return false
		}
	}
	return true
}
