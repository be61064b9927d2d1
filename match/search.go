package match

import (
	"iter"

	"chiasmus/api"
	"chiasmus/stop"
	"chiasmus/term"
)

// search looks for the matches of a pattern with a value, from the left, where each e-variable gets the short values first:
// this is the order of matches.
type search struct {
	first *node
	value []item
	bound map[string][]item // the values of the variables that have one
	trail []string          // the bound variables that were not given, in the order in which they were bound
	order []string          // all variables that were not given, in the order of first occurrences
	moves []int             // how many values each choice has tried, by its number
	found int
	depth int
}

// check stops with the error of an argument.
func check(pattern, value []api.Term, given []api.Binding) {
	stop.Need(term.Pattern(pattern))
	stop.Need(term.Value(value))
	stop.Need(Bindings(given))
}

// newSearch returns the search for matches, or stops with the error of an argument.
func newSearch(pattern, value []api.Term, given []api.Binding) *search {
	check(pattern, value, given)
	s := &search{value: append(items(nil, value), item{}), bound: map[string][]item{}}
	for _, b := range given {
		s.bound[b.Var] = items(nil, b.Value)
	}
	var c chain
	c.add(pattern)
	s.first = c.first
	s.plan()
	return s
}

// plan finds the choices of the pattern, and what the places behind them depend on.
func (s *search) plan() {
	var choices []*choice
	firsts := map[string]*node{}
	ahead := map[string]int{} // the number of choices at or ahead of the first occurrence of a variable
	for n := s.first; n != nil; n = n.next {
		_, given := s.bound[n.name]
		if n.name == "" || given {
			continue
		}
		if first, again := firsts[n.name]; again {
			for _, c := range choices[ahead[n.name]:] {
				c.depends = max(c.depends, ahead[n.name])
			}
			if first.choice != nil {
				first.choice.repeated = true
			}
			continue
		}
		if n.term.Kind == api.EVar && !n.next.closing() {
			n.choice = &choice{number: len(choices) + 1}
			choices = append(choices, n.choice)
		}
		firsts[n.name], ahead[n.name] = n, len(choices)
		s.order = append(s.order, n.name)
	}
	s.moves = make([]int, len(choices)+1)
}

// matches yields the number of each match, from 1 on, while its variables are bound.
func (s *search) matches() iter.Seq[int] {
	return func(yield func(int) bool) { s.run(s.first, 0, yield) }
}

// run goes on from a node of the pattern and an item of the value; it returns false, if yield asks for no more.
func (s *search) run(n *node, at int, yield func(int) bool) bool {
	mark := len(s.trail)
	s.deeper()
	defer func() {
		s.depth--
		s.back(mark)
	}()
	for ; n != nil; n = n.next {
		if n.choice != nil {
			return s.choose(n, at, yield)
		}
		size, ok := s.step(n, at)
		if !ok {
			return true
		}
		at += size
	}
	s.found++
	return yield(s.found)
}

// deeper bounds the calls of run around each other, which are at most one more than the choices of a right pattern.
func (s *search) deeper() {
	s.depth++
	if s.depth > api.MaxNodes+1 {
		stop.Need(api.ErrDepth)
	}
}

// choose tries all values of an e-variable that begin at an item.
func (s *search) choose(n *node, at int, yield func(int) bool) bool {
	c := n.choice
	if s.isDead(c, at) {
		return true
	}
	found, mark := s.found, len(s.trail)
	for end := at; ; end += s.value[end].size {
		s.moves[c.number]++
		s.bind(n.name, s.value[at:end])
		if !s.run(n.next, end, yield) {
			return false
		}
		s.back(mark)
		if s.value[end].closing() {
			break
		}
	}
	if s.found == found {
		s.bury(c, at)
	}
	return true
}

// isDead reports whether it is known that nothing is found from a choice and an item on.
func (s *search) isDead(c *choice, at int) bool {
	if moves := s.moves[c.depends]; c.moves != moves {
		c.moves = moves
		clear(c.dead)
	}
	return c.dead != nil && c.dead[at]
}

// bury notes that nothing is found from a choice and an item on; a value that begins further right leaves less to try,
// unless it is asked for again.
func (s *search) bury(c *choice, at int) {
	if c.dead == nil {
		c.dead = make([]bool, len(s.value))
	}
	for !c.dead[at] {
		c.dead[at] = true
		if !c.repeated {
			at += s.value[at].size
		}
	}
}

// step matches a node that leaves no choice, and returns how many items it takes.
func (s *search) step(n *node, at int) (int, bool) {
	i := s.value[at]
	if n.name == "" {
		return 1, alike(n.term, i.term)
	}
	if value, ok := s.bound[n.name]; ok {
		return len(value), begins(s.value[at:], value)
	}
	size := i.size
	switch {
	case n.term.Kind == api.EVar:
		size = s.rest(at)
	case i.closing() || n.term.Kind == api.SVar && !term.IsSymbol(i.term):
		return 0, false
	}
	s.bind(n.name, s.value[at:at+size])
	return size, true
}

// rest returns how many items there are from one on, ahead of the next closing bracket.
func (s *search) rest(at int) int {
	end := at
	for !s.value[end].closing() {
		end += s.value[end].size
	}
	return end - at
}

func (s *search) bind(name string, value []item) {
	s.bound[name] = value
	s.trail = append(s.trail, name)
}

// back undoes the bindings behind a mark of the trail.
func (s *search) back(mark int) {
	for len(s.trail) > mark {
		last := len(s.trail) - 1
		delete(s.bound, s.trail[last])
		s.trail = s.trail[:last]
	}
}

// bindings returns the match that was found.
func (s *search) bindings() []api.Binding {
	var l []api.Binding
	for _, name := range s.order {
		l = append(l, api.Binding{Var: name, Value: termsOf(s.bound[name])})
	}
	return l
}
