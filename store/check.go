package store

// Check reports whether all links of the cells are right.
func (s *Store) Check() bool {
	if s == nil {
		return false
	}
	c := &checker{store: s, seen: make([]bool, len(s.cells)), counted: map[*block]int{}}
	c.right = len(s.cells)-1 <= s.most
	live := c.live()
	used := live + c.dead()
	return c.free() == len(s.cells)-1-used && c.right && live == s.live && used == s.used
}

// checker goes through all cells of a store, and notes whether all was right so far.
type checker struct {
	store   *Store
	seen    []bool         // the cells that were met
	counted map[*block]int // the handles that were met, by blocks
	right   bool
}

// need notes whether something holds that has to.
func (c *checker) need(holds bool) bool {
	c.right = c.right && holds
	return holds
}

// live checks the handles and their blocks, and returns how many cells these have.
func (c *checker) live() int {
	cells := 0
	for i, b := range c.store.handles {
		if b == nil {
			c.need(i+1 >= c.store.least)
			continue
		}
		if c.counted[b] == 0 {
			cells += c.block(b)
		}
		c.counted[b]++
	}
	for b, n := range c.counted {
		c.need(b.handles == n)
	}
	return cells
}

// dead checks garbage, and returns how many cells it has.
func (c *checker) dead() int {
	cells := 0
	for _, b := range c.store.garbage {
		c.need(b.handles == 0)
		cells += c.block(b)
	}
	return cells
}

// free returns how many free cells there are.
func (c *checker) free() int {
	cells := 0
	for at := c.store.free; at != 0 && c.meet(at); at = c.store.cells[at].next {
		cells++
	}
	return cells
}

// meet notes that a cell was met; it returns false, if there is no such cell, or it was met ahead.
func (c *checker) meet(at int) bool {
	if !c.need(at > 0 && at < len(c.seen) && !c.seen[at]) {
		return false
	}
	c.seen[at] = true
	return true
}

// block checks the cells of a block, and returns how many there are.
func (c *checker) block(b *block) int {
	var open []int // the brackets that are not closed yet
	cells, last := 0, 0
	for at := b.span[0]; at != 0 && c.meet(at); at = c.store.cells[at].next {
		here := c.store.cells[at]
		c.need(here.prev == last)
		switch {
		case here.opens():
			open = append(open, at)
		case here.closes():
			if !c.need(len(open) > 0) {
				return cells
			}
			first := open[len(open)-1]
			c.need(here.partner == first && c.store.cells[first].partner == at)
			open = open[:len(open)-1]
		default:
			c.need(here.partner == 0)
		}
		last = at
		cells++
	}
	c.need(b.span[1] == last && b.size == cells && len(open) == 0)
	return cells
}
