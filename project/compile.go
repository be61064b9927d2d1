package project

import (
	"slices"

	"chiasmus/api"
	"chiasmus/term"
)

// part is what is left of a pattern for a hole.
type part struct {
	hole  int
	items []api.Term
}

// compiler makes the operations of a pattern.
type compiler struct {
	ops   []Op
	holes []part // those that are not done, from the left to the right
	last  int    // the number of the last hole that was made
	known map[string]bool
}

// next adds the next operation.
func (c *compiler) next() {
	for i := range c.holes {
		if c.advance(i) {
			return
		}
	}
	first := &c.holes[0]
	name := term.Name(first.items[0])
	c.ops = append(c.ops, Op{Kind: Open, Hole: first.hole, Var: name})
	c.known[name] = true
	first.items = first.items[1:]
}

// advance adds the operation for a hole that leaves no choice; false, if there is none.
func (c *compiler) advance(i int) bool {
	h := c.holes[i]
	last := len(h.items) - 1
	switch {
	case last < 0:
		c.ops = append(c.ops, Op{Kind: Empty, Hole: h.hole})
		c.holes = slices.Delete(c.holes, i, i+1)
	case last == 0 && !c.isSure(h.items[0]):
		name := term.Name(h.items[0])
		c.ops = append(c.ops, Op{Kind: Close, Hole: h.hole, Var: name})
		c.known[name] = true
		c.holes = slices.Delete(c.holes, i, i+1)
	case c.isSure(h.items[0]):
		c.holes[i].items = h.items[1:]
		c.take(i, h.items[0], false)
	case c.isSure(h.items[last]):
		c.holes[i].items = h.items[:last]
		c.take(i, h.items[last], true)
	default:
		return false
	}
	return true
}

// isSure reports whether it is clear how many terms an item takes.
func (c *compiler) isSure(t api.Term) bool { return t.Kind != api.EVar || c.known[term.Name(t)] }

// take adds the operation for an item at an end of a hole. The hole of a group stands ahead of this one, if it is at its left end,
// and otherwise behind it.
func (c *compiler) take(i int, t api.Term, right bool) {
	o := Op{Hole: c.holes[i].hole, Right: right, Var: term.Name(t)}
	switch {
	case t.Kind == api.Group:
		o.Kind = Enter
		c.last++
		if right {
			i++
		}
		c.holes = slices.Insert(c.holes, i, part{c.last, t.Kids})
	case term.IsSymbol(t):
		o.Kind = Symbol
		o.Symbol = api.Term{Kind: t.Kind, Text: t.Text}
	case c.known[o.Var]:
		o.Kind = Known
	case t.Kind == api.SVar:
		o.Kind = TakeS
	default:
		o.Kind = TakeT
	}
	if o.Var != "" {
		c.known[o.Var] = true
	}
	c.ops = append(c.ops, o)
}
