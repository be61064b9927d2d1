// Package term is layer 1: terms and expressions, their errors, sizes, order and texts. See shared/doc/01-term.md.
package term

import (
	"cmp"
	"iter"
	"slices"

	"chiasmus/api"
)

// Value returns the error of a value expression.
func Value(l []api.Term) api.Errno { return fault(l, api.Group) }

// Pattern returns the error of a pattern.
func Pattern(l []api.Term) api.Errno { return fault(l, api.EVar) }

// Result returns the error of a result expression.
func Result(l []api.Term) api.Errno { return fault(l, api.Call) }

// fault returns the error of an expression whose terms may have the kinds up to last.
// It stops at the first term beyond the limit, so that it is fast for terms of any size.
func fault(l []api.Term, last int) api.Errno {
	nodes, depth := 0, 0
	for level, t := range preorder(l) {
		nodes++
		if nodes > api.MaxNodes {
			return api.ErrCount
		}
		depth = max(depth, level+ownDepth(t))
	}
	if depth > api.MaxDepth {
		return api.ErrDepth
	}
	for _, t := range preorder(l) {
		if t.Kind > last || !right(t) {
			return api.ErrForm
		}
	}
	return api.OK
}

// preorder yields all terms of an expression, each ahead of its Kids, with the number of terms around it.
func preorder(l []api.Term) iter.Seq2[int, api.Term] {
	return func(yield func(int, api.Term) bool) { visit(l, 0, yield) }
}

// visit hands on the one yield function to all depths: ranges within ranges would cost a call per depth and term.
func visit(l []api.Term, level int, yield func(int, api.Term) bool) bool {
	for _, t := range l {
		if !yield(level, t) || !visit(t.Kids, level+1, yield) {
			return false
		}
	}
	return true
}

// ownDepth returns the depth that a term has without its Kids: these add a level by themselves.
func ownDepth(t api.Term) int {
	if t.Kind == api.Group || t.Kind == api.Call {
		return 1
	}
	return 0
}

// Size returns the number of terms of an expression, at all depths, and its depth.
func Size(l []api.Term) (nodes, depth int) {
	add := func(level int, t api.Term) bool {
		nodes++
		depth = max(depth, level+ownDepth(t))
		return true
	}
	visit(l, 0, add)
	return nodes, depth
}

// Equal reports whether two expressions are equal.
func Equal(a, b []api.Term) bool { return slices.EqualFunc(a, b, equalTerms) }

func equalTerms(a, b api.Term) bool {
	return a.Kind == b.Kind && a.Text == b.Text && Equal(a.Kids, b.Kids)
}

// Compare orders expressions: -1, 0 or 1.
func Compare(a, b []api.Term) int { return slices.CompareFunc(a, b, compareTerms) }

func compareTerms(a, b api.Term) int {
	if c := cmp.Compare(a.Kind, b.Kind); c != 0 {
		return c
	}
	if c := slices.Compare([]byte(a.Text), []byte(b.Text)); c != 0 {
		return c
	}
	return Compare(a.Kids, b.Kids)
}

// Copy returns an expression that shares no memory.
func Copy(l []api.Term) []api.Term {
	c := slices.Clone(l)
	for i := range c {
		c[i].Kids = Copy(c[i].Kids)
	}
	return c
}

// IsSymbol reports whether a term is a symbol.
func IsSymbol(t api.Term) bool {
	return t.Kind == api.Char || t.Kind == api.Word || t.Kind == api.Number
}

// IsVariable reports whether a term is a variable.
func IsVariable(t api.Term) bool { return prefix(t.Kind) != "" }

// prefix returns what the names of variables of a kind begin with; empty for other kinds.
func prefix(kind int) string {
	switch kind {
	case api.SVar:
		return "s."
	case api.TVar:
		return "t."
	case api.EVar:
		return "e."
	}
	return ""
}

// Name returns the name of a variable with its kind ("e.x"); empty for another term.
func Name(t api.Term) string {
	if !IsVariable(t) {
		return ""
	}
	return prefix(t.Kind) + t.Text
}

// Variable returns the variable with a name ("e.x").
func Variable(name string) (api.Term, bool) {
	kind := variableKind(name)
	if kind == 0 || !isVariableText(name[2:]) {
		return api.Term{}, false
	}
	return api.Term{Kind: kind, Text: name[2:]}, true
}

// variableKind returns the kind of the variables whose names begin as a text does; 0, if there is none.
func variableKind(text string) int {
	for _, kind := range [...]int{api.SVar, api.TVar, api.EVar} {
		if len(text) >= 2 && text[:2] == prefix(kind) {
			return kind
		}
	}
	return 0
}

// Variables returns the names of the variables of an expression, in the order of first occurrences.
func Variables(l []api.Term) []string {
	var names []string
	seen := map[string]bool{}
	for _, t := range preorder(l) {
		name := Name(t)
		if name != "" && !seen[name] {
			seen[name] = true
			names = append(names, name)
		}
	}
	return names
}

// Calls reports whether an expression contains a call.
func Calls(l []api.Term) bool {
	for _, t := range preorder(l) {
		if t.Kind == api.Call {
			return true
		}
	}
	return false
}

// Chars returns the characters of a string.
func Chars(s string) []api.Term {
	l := make([]api.Term, len(s))
	for i := range len(s) {
		l[i] = api.Term{Kind: api.Char, Text: s[i : i+1]}
	}
	return l
}

// String returns the string of an expression of characters.
func String(l []api.Term) (string, bool) {
	b := make([]byte, 0, len(l))
	for _, t := range l {
		if t.Kind != api.Char || !right(t) {
			return "", false
		}
		b = append(b, t.Text...)
	}
	return string(b), true
}

// At returns the term with a path.
func At(l []api.Term, path []int) (api.Term, bool) {
	var found api.Term
	for _, i := range path {
		if i < 0 || i >= len(l) {
			return api.Term{}, false
		}
		found = l[i]
		l = found.Kids
	}
	if len(path) == 0 {
		return api.Term{}, false
	}
	found.Kids = Copy(found.Kids)
	return found, true
}

// Put returns an expression in which the term with a path is replaced by terms.
func Put(l []api.Term, path []int, by []api.Term) ([]api.Term, bool) {
	if _, ok := At(l, path); !ok {
		return nil, false
	}
	return put(Copy(l), path, Copy(by)), true
}

// put replaces the term with a path, which is there, in an expression that nobody else holds.
func put(l []api.Term, path []int, by []api.Term) []api.Term {
	i := path[0]
	if len(path) == 1 {
		return slices.Replace(l, i, i+1, by...)
	}
	l[i].Kids = put(l[i].Kids, path[1:], by)
	return l
}
