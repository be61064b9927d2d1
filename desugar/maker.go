package desugar

import (
	"slices"
	"strconv"

	"chiasmus/api"
	"chiasmus/stop"
)

// maker collects the core functions that stand for a function of a program.
type maker struct {
	functions []api.Function
	newName   func() string
}

// coreFunctions returns the functions that stand for one of a program; new ones do not get names that are taken.
func coreFunctions(f api.Function, taken map[string]bool) []api.Function {
	if !Needed(f) {
		return []api.Function{f}
	}
	m := &maker{newName: newNames(f.Name, taken)}
	m.add(f.Name, f.Sentences, nil)
	m.functions[0].Entry = f.Entry
	return m.functions
}

// newNames returns a function that returns the next new name. Those for two functions differ ahead of the last `-`.
func newNames(function string, taken map[string]bool) func() string {
	number := 0
	return func() string {
		for {
			number++
			name := function + "-" + strconv.Itoa(number)
			if !taken[name] {
				stop.Unless(len(name) <= api.MaxName, ErrNames)
				return name
			}
		}
	}
}

// add adds the core functions of a name, of sentences and of a context.
func (m *maker) add(name string, l []api.Sentence, around context) {
	first := firstSplit(l)
	var sentences []api.Sentence
	for _, s := range l[:first] {
		sentences = append(sentences, api.Sentence{Left: around.ahead(s.Left), Right: s.Right})
	}
	if first == len(l) {
		m.put(name, sentences)
		return
	}
	behind := l[first+1:]
	s := m.split(l[first], len(behind) > 0, around)
	m.put(name, append(sentences, s.entrance()...))
	for i := range s.Tests {
		m.put(s.names[i], s.test(i))
	}
	if len(s.Block) > 0 {
		m.add(s.names[len(s.Tests)], s.Block, s.known(len(s.Tests)))
	}
	if len(behind) > 0 {
		m.add(s.rest, behind, around)
	}
}

func (m *maker) put(name string, l []api.Sentence) {
	m.functions = append(m.functions, api.Function{Name: name, Sentences: l})
}

// split takes the names of the functions into which a sentence is split.
func (m *maker) split(s api.Sentence, rest bool, around context) split {
	x := split{Sentence: s, around: around}
	for range s.Tests {
		x.names = append(x.names, m.newName())
	}
	if len(s.Block) > 0 {
		x.names = append(x.names, m.newName())
	}
	if rest {
		x.rest = m.newName()
	}
	return x
}

// context is a list of patterns; as terms it is a group for each of them.
type context [][]api.Term

// with returns the context with further patterns behind it. It is cloned, since several ones may grow from it.
func (c context) with(l ...[]api.Term) context { return append(slices.Clone(c), l...) }

// ahead returns the terms of the context ahead of others.
func (c context) ahead(l []api.Term) []api.Term {
	var out []api.Term
	for _, pattern := range c {
		out = append(out, api.Term{Kind: api.Group, Kids: pattern})
	}
	return append(out, l...)
}
