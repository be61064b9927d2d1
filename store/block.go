package store

import "chiasmus/api"

// block has an expression.
type block struct {
	span    span
	size    int // the number of its cells
	handles int // how many belong to it
}

// block returns the block of a handle.
func (s *Store) block(h int) (*block, api.Errno) {
	if s == nil {
		return nil, api.ErrArgument
	}
	if h < 1 || h > len(s.handles) || s.handles[h-1] == nil {
		return nil, ErrHandle
	}
	return s.handles[h-1], api.OK
}

// hold returns a new handle of a block.
func (s *Store) hold(b *block) int {
	for s.least <= len(s.handles) && s.handles[s.least-1] != nil {
		s.least++
	}
	if s.least > len(s.handles) {
		s.handles = append(s.handles, nil)
	}
	h := s.least
	s.handles[h-1] = b
	b.handles++
	return h
}

// release takes a handle from its block, which may have no other one.
func (s *Store) release(h int) {
	s.handles[h-1].handles--
	s.handles[h-1] = nil
	s.least = min(s.least, h)
}

// need returns api.ErrLarge, if there are not so many cells that may be used, even without garbage.
func (s *Store) need(cells int) api.Errno {
	if s.used+cells > s.most {
		s.Collect()
	}
	if s.used+cells > s.most {
		return api.ErrLarge
	}
	return api.OK
}

// take gives a handle up, and returns a block with its expression that has no handle: its own one, or a copy.
// The cells of the copy are there.
func (s *Store) take(h int) *block {
	b := s.handles[h-1]
	s.release(h)
	if b.handles > 0 {
		return s.copied(b)
	}
	return b
}

// own returns the block of a handle, which gets a copy of it, if there are other handles of it. The cells of the copy are there.
func (s *Store) own(h int) *block {
	b := s.handles[h-1]
	if b.handles > 1 {
		b.handles--
		b = s.copied(b)
		b.handles = 1
		s.handles[h-1] = b
	}
	return b
}

// copied returns a new block with an equal expression.
func (s *Store) copied(b *block) *block {
	to := &block{}
	var open []int // the copies of the brackets that are not closed yet
	at := b.span[0]
copying:
	for {
		c := s.cells[at]
		switch {
		case at == 0:
			break copying
		case c.opens():
			open = append(open, s.add(to, c.kind, c.text))
		case c.closes():
			last := len(open) - 1
			s.pair(open[last], s.add(to, c.kind, c.text))
			open = open[:last]
		default:
			s.add(to, c.kind, c.text)
		}
		at = c.next
	}
	return to
}

// insert puts the cells of a block without handles into another one, ahead of a cell, or at the end for 0.
func (s *Store) insert(b *block, behind int, moved *block) {
	if moved.size == 0 {
		return
	}
	first, last := moved.span[0], moved.span[1]
	before := s.before(b, behind)
	s.link(b, before, first)
	s.link(b, last, behind)
	b.size += moved.size
}

// remove takes the cells from one to ahead of another one, or up to the end for 0, out of a block, and returns a block of them.
func (s *Store) remove(b *block, first, behind int) *block {
	cut := &block{}
	if first == behind {
		return cut
	}
	before, last := s.cells[first].prev, s.before(b, behind)
	s.link(b, before, behind)
	s.link(cut, 0, first)
	s.link(cut, last, 0)
	for range s.along(cut.span) {
		cut.size++
	}
	b.size -= cut.size
	return cut
}

// alike reports whether two blocks with as many cells have equal expressions.
func (s *Store) alike(a, b *block) bool {
	at := b.span[0]
	for _, c := range s.along(a.span) {
		d := s.cells[at]
		if c.kind != d.kind || c.text != d.text {
			return false
		}
		at = d.next
	}
	return true
}

// depth returns the depth of a block's expression.
func (s *Store) depth(b *block) int {
	open, depth := 0, 0
	for _, c := range s.along(b.span) {
		if c.opens() {
			open++
			depth = max(depth, open)
		} else if c.closes() {
			open--
		}
	}
	return depth
}
