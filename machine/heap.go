package machine

import (
	"slices"

	"chiasmus/api"
	"chiasmus/store"
)

// heap is the linked store with the view field of a machine. It has room for what a step needs besides, and its methods
// stop, if it has not.
type heap struct{ cells *store.Store }

func newHeap() heap {
	s, errno := store.New(store.MaxCells)
	need("new", errno)
	return heap{s}
}

// piece is a part of an expression: terms without calls that have a handle (none, if it is 0), or a bracket with calls in it.
type piece struct {
	handle int
	cells  int // of the terms
	inner  *bracket
}

func (p piece) isEmpty() bool { return p.handle == 0 && p.inner == nil }

// put returns the piece with terms that have no calls.
func (h heap) put(l []api.Term) piece {
	if len(l) == 0 {
		return piece{}
	}
	handle, errno := h.cells.Put(l)
	need("put", errno)
	return piece{handle: handle, cells: store.Cells(l)}
}

// get returns the terms of a piece without calls.
func (h heap) get(p piece) []api.Term {
	if p.isEmpty() {
		return nil
	}
	l, errno := h.cells.Get(p.handle)
	need("get", errno)
	return l
}

// copy returns a piece with the same terms. It has cells of its own when it becomes a part of another one.
func (h heap) copy(p piece) piece {
	if p.isEmpty() {
		return p
	}
	handle, errno := h.cells.Copy(p.handle)
	need("copy", errno)
	return piece{handle: handle, cells: p.cells}
}

// drop gives up a piece without calls.
func (h heap) drop(p piece) {
	if !p.isEmpty() {
		need("drop", h.cells.Drop(p.handle))
	}
}

// cut takes the terms of a span out of a piece.
func (h heap) cut(p piece, s span) piece {
	if s.from == s.to {
		return piece{}
	}
	handle, errno := h.cells.Cut(p.handle, s.path, s.from, s.to)
	need("cut", errno)
	return piece{handle: handle, cells: s.cells}
}

// join puts the terms of a piece ahead of those of another one, which may be empty: so no list is walked along to its end.
func (h heap) join(a, b piece) piece {
	if b.isEmpty() {
		return a
	}
	need("join", h.cells.Move(a.handle, b.handle, nil, 0))
	return piece{handle: b.handle, cells: a.cells + b.cells}
}

// joined returns one piece with the terms of several ones.
func (h heap) joined(l []piece) piece {
	var all piece
	for _, p := range slices.Backward(l) {
		all = h.join(p, all)
	}
	return all
}

// group returns the piece with a group of the terms of pieces.
func (h heap) group(l []piece) piece {
	all := h.joined(l)
	p := h.put([]api.Term{{Kind: api.Group}})
	if !all.isEmpty() {
		need("group", h.cells.Move(all.handle, p.handle, []int{0}, 0))
		p.cells += all.cells
	}
	return p
}
