package project

import (
	"slices"

	"chiasmus/api"
)

// element is a symbol, or a bracket of a group. Equal values have equal elements.
type element struct {
	kind  int
	text  string
	width int // how far it is from a bracket to the other one, below 0 for one that closes
}

// elements puts the elements of a value behind others.
func elements(l []element, value []api.Term) []element {
	for _, t := range value {
		first := len(l)
		l = append(l, element{kind: t.Kind, text: t.Text})
		if t.Kind == api.Group {
			l = elements(l, t.Kids)
			width := len(l) - first
			l[first].width = width
			l = append(l, element{kind: api.Group, width: -width})
		}
	}
	return l
}

// terms returns the value that has some elements.
func terms(l []element) []api.Term {
	var value []api.Term
	for len(l) > 0 {
		t := api.Term{Kind: l[0].kind, Text: l[0].text}
		last := l[0].width
		if t.Kind == api.Group {
			t.Kids = terms(l[1:last])
		}
		value = append(value, t)
		l = l[last+1:]
	}
	return value
}

// few is how many elements are compared at once.
const few = 4

// alike reports whether two lists with as many elements are equal.
func alike(a, b []element) bool {
	for len(a) >= few {
		if [few]element(a) != [few]element(b) {
			return false
		}
		a, b = a[few:], b[few:]
	}
	return slices.Equal(a, b)
}
