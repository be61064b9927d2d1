package match

import (
	"slices"

	"chiasmus/api"
	"chiasmus/term"
)

// item is a term of a value, or, with no kind and no size, the bracket that closes a group or the value.
// All of them stand in one list, so that a place in it also tells which groups are open.
type item struct {
	term api.Term
	size int // of the term, with the items within it and its closing bracket
}

func (i item) closing() bool { return i.size == 0 }

// items puts the items of the terms of a value behind others.
func items(list []item, l []api.Term) []item {
	list = slices.Grow(list, len(l)+1) // with a closing bracket
	for _, t := range l {
		first := len(list)
		list = append(list, item{t, 1})
		if t.Kind == api.Group {
			list = append(items(list, t.Kids), item{})
			list[first].size = len(list) - first
		}
	}
	return list
}

// termsOf returns the terms of which a list has the items.
func termsOf(list []item) []api.Term {
	l := make([]api.Term, 0, len(list))
	for at := 0; at < len(list); at += list[at].size {
		l = append(l, list[at].term)
	}
	return term.Copy(l)
}

// alike reports whether two terms are the same but for what is within them.
func alike(a, b api.Term) bool { return a.Kind == b.Kind && a.Text == b.Text }

// begins reports whether a list begins with another one.
func begins(list, with []item) bool {
	if len(with) > len(list) {
		return false
	}
	for i, w := range with {
		if !alike(list[i].term, w.term) {
			return false
		}
	}
	return true
}

// node is a term of a pattern, or a closing bracket, which has no kind.
type node struct {
	term   api.Term
	name   string  // of a variable
	choice *choice // where an e-variable gets its value
	next   *node
}

func (n *node) closing() bool { return n.term.Kind == 0 }

// choice is the place of a pattern where an e-variable gets values of all lengths; at the end of its brackets it has none,
// since it takes all that is left there.
type choice struct {
	number   int  // its number among the choices, from 1 on
	repeated bool // its variable occurs again, so that its value matters behind it
	// What is not found from here on depends on the moves of an earlier choice, the last one that has to do
	// with a variable that is bound ahead of this one and occurs behind it; 0, if there is none.
	depends int
	moves   int    // of that choice, when dead was right
	dead    []bool // the places in the value from which nothing is found
}

// chain is a list of nodes.
type chain struct{ first, last *node }

func (c *chain) put(t api.Term) {
	n := &node{term: t, name: term.Name(t)}
	if c.last == nil {
		c.first = n
	} else {
		c.last.next = n
	}
	c.last = n
}

// add puts the terms of a pattern behind the others, with what is in groups, and closes them.
func (c *chain) add(l []api.Term) {
	for _, t := range l {
		c.put(t)
		if t.Kind == api.Group {
			c.add(t.Kids)
		}
	}
	c.put(api.Term{})
}
