package store

import (
	"iter"

	"chiasmus/api"
)

// cell has a symbol, a variable, or a bracket of a Group or a Call. The cells of an expression are linked in both directions;
// those of what is in brackets stand between these. Cells are meant by their indices; 0 is none.
type cell struct {
	kind       int // that of the term; closing for a bracket that closes
	text       string
	prev, next int
	partner    int // the other bracket
}

// closing is the kind of the cells of brackets that close.
const closing = -1

func (c cell) opens() bool  { return c.kind == api.Group || c.kind == api.Call }
func (c cell) closes() bool { return c.kind == closing }

// span has the first and the last cell of an expression; both are 0, if it is empty.
type span [2]int

// list is a list of terms: it begins with a cell, and ends ahead of another one, a bracket, or 0 where no bracket is around it.
type list struct{ first, end int }

// Cells returns how many cells an expression takes.
func Cells(l []api.Term) int {
	n := len(l)
	for _, t := range l {
		if t.Kind == api.Group || t.Kind == api.Call {
			n += 1 + Cells(t.Kids)
		}
	}
	return n
}

// along yields the cells of a span, which may be changed meanwhile.
func (s *Store) along(p span) iter.Seq2[int, cell] {
	return func(yield func(int, cell) bool) {
		for at := p[0]; at != 0; {
			c := s.cells[at]
			if !yield(at, c) || at == p[1] {
				return
			}
			at = c.next
		}
	}
}

// add puts a new cell behind those of a block.
func (s *Store) add(b *block, kind int, text string) int {
	at := s.free
	if at == 0 {
		at = len(s.cells)
		s.cells = append(s.cells, cell{})
	} else {
		s.free = s.cells[at].next
	}
	s.cells[at] = cell{kind: kind, text: text}
	s.link(b, b.span[1], at)
	s.link(b, at, 0)
	b.size++
	s.used++
	s.live++
	return at
}

// link makes two cells of a block neighbours; one of them may be 0, for its beginning or its end.
func (s *Store) link(b *block, left, right int) {
	if left == 0 {
		b.span[0] = right
	} else {
		s.cells[left].next = right
	}
	if right == 0 {
		b.span[1] = left
	} else {
		s.cells[right].prev = left
	}
}

// pair makes two cells the brackets of one term.
func (s *Store) pair(open, closed int) {
	s.cells[open].partner = closed
	s.cells[closed].partner = open
}

// discard frees the cells of a block.
func (s *Store) discard(b *block) {
	for at := range s.along(b.span) {
		s.cells[at] = cell{next: s.free}
		s.free = at
	}
}

// write puts an expression behind that of a block.
func (s *Store) write(b *block, l []api.Term) {
	for _, t := range l {
		at := s.add(b, t.Kind, t.Text)
		if s.cells[at].opens() {
			s.write(b, t.Kids)
			s.pair(at, s.add(b, closing, ""))
		}
	}
}

// read returns the expression of a span.
func (s *Store) read(p span) []api.Term {
	open := make([]api.Term, 1) // the brackets that are not closed yet; the first one stands for the expression itself
	for _, c := range s.along(p) {
		t := api.Term{Kind: c.kind, Text: c.text}
		if c.opens() {
			open = append(open, t)
			continue
		}
		if c.closes() {
			last := len(open) - 1
			t = open[last]
			open = open[:last]
		}
		top := &open[len(open)-1]
		top.Kids = append(top.Kids, t)
	}
	return open[0].Kids
}

// list returns the list at a path of a block's expression; false, if there is none.
func (s *Store) list(b *block, path []int) (list, bool) {
	l := list{b.span[0], 0}
	for _, i := range path {
		at, ok := s.place(l, i)
		if !ok || !s.cells[at].opens() {
			return list{}, false
		}
		l = list{s.cells[at].next, s.cells[at].partner}
	}
	return l, true
}

// place returns the cell with which the term with an index begins, or the end of the list for the number of its terms.
func (s *Store) place(l list, i int) (int, bool) {
	at := l.first
	for ; i > 0 && at != l.end; i-- {
		if s.cells[at].opens() {
			at = s.cells[at].partner
		}
		at = s.cells[at].next
	}
	return at, i == 0
}

// before returns the cell ahead of another one of a block, or its last one for 0.
func (s *Store) before(b *block, at int) int {
	if at == 0 {
		return b.span[1]
	}
	return s.cells[at].prev
}
