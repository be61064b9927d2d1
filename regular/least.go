package regular

import (
	"strconv"

	"chiasmus/api"
	"chiasmus/stop"
	"chiasmus/term"
)

// Least returns a value that an automaton accepts; false, if there is none.
func Least(a Automaton) ([]api.Term, bool, api.Errno) {
	if e := Check(a); e != api.OK {
		return nil, false, e
	}
	s := searchIn(a)
	if s.sizes[a.Start] == none {
		return nil, false, api.OK
	}
	if s.sizes[a.Start] == tooMany {
		return nil, false, api.ErrLarge
	}
	value := s.least(a.Start)
	if _, depth := term.Size(value); depth > api.MaxDepth {
		return nil, false, api.ErrLarge
	}
	return term.Copy(value), true, api.OK
}

// Sizes of least values that are not told apart.
const (
	tooMany = api.MaxNodes + 1 // or more
	none    = api.MaxNodes + 2 // no value at all
)

// search looks for the least values that are accepted from states.
type search struct {
	out   [][]Edge
	sizes []int // the number of terms of the least value from each state
	found map[int][]api.Term
}

// searchIn returns the search in an automaton, with all sizes.
func searchIn(a Automaton) search {
	s := search{a.byState(), make([]int, a.States), map[int][]api.Term{}}
	for q := range s.sizes {
		s.sizes[q] = none
	}
	for _, q := range a.Final {
		s.sizes[q] = 0
	}
	for changed := true; changed; {
		changed = false
		for _, x := range a.Edges {
			if size := s.size(x); size < s.sizes[x.From] {
				s.sizes[x.From] = size
				changed = true
			}
		}
	}
	return s
}

// size returns the size of the least value whose first term an edge reads.
func (s search) size(x Edge) int {
	inner, rest := 0, s.sizes[x.To]
	if x.Kind == Nest {
		inner = s.sizes[x.Inner]
	}
	if inner == none || rest == none {
		return none
	}
	return min(1+inner+rest, tooMany)
}

// least returns the least value from a state from which there is one that is not too large.
// Its parts are shorter, and so the search ends.
func (s search) least(q int) []api.Term {
	if s.sizes[q] == 0 {
		return nil
	}
	if value, ok := s.found[q]; ok {
		return value
	}
	var least []api.Term
	for _, x := range s.out[q] {
		if s.size(x) != s.sizes[q] {
			continue
		}
		value := append([]api.Term{s.first(x)}, s.least(x.To)...)
		if least == nil || term.Compare(value, least) < 0 {
			least = value
		}
	}
	s.found[q] = least
	return least
}

// first returns the least term that an edge reads.
func (s search) first(x Edge) api.Term {
	switch x.Kind {
	case One:
		return x.Symbol
	case Nest:
		return api.Term{Kind: api.Group, Kids: s.least(x.Inner)}
	}
	for i := 0; ; i++ {
		t := api.Term{Kind: x.symbols(), Text: candidate(x.Kind, i)}
		if x.Reads(t) {
			return t
		}
	}
}

// candidate returns the text of the symbol with a number, from 0 on, among those that an edge for a kind tries.
// There are more of them than an edge may leave out.
func candidate(kind, i int) string {
	const letters = "abcdefghijklmnopqrstuvwxyz"
	switch {
	case kind == Numbers:
		return strconv.Itoa(i)
	case i < len(letters):
		return letters[i : i+1]
	case kind == Chars:
		return string([]byte{byte(i - len(letters))})
	}
	i -= len(letters)
	return string([]byte{letters[i/len(letters)], letters[i%len(letters)]})
}

// Within reports whether one accepts all values of another one; otherwise it returns a value that only the first one accepts.
func Within(a, b Automaton) (bool, []api.Term, api.Errno) {
	var value []api.Term
	var found bool
	e := stop.Attempt(func() {
		stop.Need(Check(a))
		outside, e := Not(b)
		stop.Need(e)
		rest, e := Both(a, outside)
		stop.Need(e)
		value, found, e = Least(rest)
		stop.Need(e)
	})
	if e != api.OK || found {
		return false, value, e
	}
	return true, nil, api.OK
}
