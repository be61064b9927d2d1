package machine

import (
	"slices"

	"chiasmus/api"
)

// bracket is a group or a call, or, without a kind, the outermost list of the view field. Those around the active call are open:
// what is done are terms without calls; the rest stands behind them, the next piece last.
type bracket struct {
	kind   int
	text   string
	around *bracket
	level  int // the number of brackets around the terms within
	done   []piece
	rest   []piece
}

// next takes the next piece of the rest.
func (b *bracket) next() (piece, bool) {
	last := len(b.rest) - 1
	if last < 0 {
		return piece{}, false
	}
	p := b.rest[last]
	b.rest = b.rest[:last]
	return p, true
}

// following returns the rest in order.
func (b *bracket) following() []piece {
	rest := slices.Clone(b.rest)
	slices.Reverse(rest)
	return rest
}

// insert puts pieces, which are in order, ahead of the rest.
func (b *bracket) insert(l []piece) {
	for _, p := range slices.Backward(l) {
		b.rest = append(b.rest, p)
	}
}

// advance opens and closes brackets up to the active call, or to the end.
func (m *Machine) advance() {
	for {
		b := m.active
		p, ok := b.next()
		switch {
		case ok && p.inner != nil:
			p.inner.around, p.inner.level = b, b.level+1
			m.active = p.inner
		case ok:
			m.heap.finish(b, p)
		case b.kind == api.Group:
			m.active = b.around
			m.heap.finish(b.around, m.heap.group(b.done))
		default:
			return
		}
	}
}

// finish puts a piece without calls behind those that are done. It is joined with smaller ones, so that there are few of them,
// and no cell is moved often.
func (h heap) finish(b *bracket, p piece) {
	last := len(b.done) - 1
	for ; last >= 0 && b.done[last].cells <= p.cells; last-- {
		p = h.join(b.done[last], p)
	}
	b.done = append(b.done[:last+1], p)
}

// terms returns the view field.
func (m *Machine) terms() []api.Term {
	var within []api.Term
	for b := m.active; ; b = b.around {
		l := m.heap.read(b.done)
		l = append(l, within...)
		l = append(l, m.heap.read(b.following())...)
		if b.around == nil {
			return l
		}
		within = []api.Term{{Kind: b.kind, Text: b.text, Kids: l}}
	}
}

// read returns the terms of pieces that are in order.
func (h heap) read(pieces []piece) []api.Term {
	var l []api.Term
	for _, p := range pieces {
		if b := p.inner; b != nil {
			l = append(l, api.Term{Kind: b.kind, Text: b.text, Kids: h.read(b.following())})
			continue
		}
		l = append(l, h.get(p)...)
	}
	return l
}
