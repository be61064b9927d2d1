package types

import (
	"fmt"
	"strings"
	"testing"

	"chiasmus/api"
	"chiasmus/regular"
	"chiasmus/syntax"
	"chiasmus/term"
)

func parsed(t *testing.T, s string) []api.Term {
	t.Helper()
	l, at, e := term.Parse(s)
	if e != api.OK {
		t.Fatalf("Parse(%q) = %d, %v", s, at, e)
	}
	return l
}

func program(t *testing.T, s string) api.Program {
	t.Helper()
	p, at, e := syntax.Program(s)
	if e != api.OK {
		t.Fatalf("Program(%q) = %d, %v", s, at, e)
	}
	return p
}

func text(l []api.Term) string {
	s, e := term.Text(l)
	if e != api.OK {
		return "error " + e.Error()
	}
	return s
}

// describe returns the text of an automaton: its states, its start, its final states, and its edges.
func describe(a regular.Automaton) string {
	s := fmt.Sprintf("%d from %d to %v", a.States, a.Start, a.Final)
	for _, x := range a.Edges {
		label := []string{"?", text([]api.Term{x.Symbol}), "c", "w", "n", fmt.Sprintf("(%d)", x.Inner)}[x.Kind]
		if len(x.Except) > 0 {
			label += " but " + text(x.Except)
		}
		s += fmt.Sprintf("; %d %s %d", x.From, label, x.To)
	}
	return s
}

// must returns an automaton that has no error.
func must(t *testing.T) func(regular.Automaton, api.Errno) regular.Automaton {
	return func(a regular.Automaton, e api.Errno) regular.Automaton {
		t.Helper()
		if e != api.OK {
			t.Fatalf("an operation = %v", e)
		}
		return a
	}
}

// of returns the automaton of a pattern, where `Star(pattern)` is any number of its values, and `A | B` one of both.
func of(t *testing.T, s string) regular.Automaton {
	t.Helper()
	if first, rest, ok := strings.Cut(s, " | "); ok {
		return must(t)(regular.Union(of(t, first), of(t, rest)))
	}
	if inner, ok := strings.CutPrefix(s, "Star "); ok {
		return must(t)(regular.Star(of(t, inner)))
	}
	a, _, e := Left(parsed(t, s))
	if e != api.OK {
		t.Fatalf("Left(%s) = %v", s, e)
	}
	return a
}

func none(a regular.Automaton) bool {
	return a.States == 0 && a.Start == 0 && len(a.Final) == 0 && len(a.Edges) == 0
}

// symbols returns the text of so many different words.
func symbols(count int) string {
	s := ""
	for i := range count {
		s += fmt.Sprintf("A%d ", i)
	}
	return s
}

const (
	symbolText = "2 from 0 to [1]; 0 c 1; 0 w 1; 0 n 1"
	termText   = "3 from 0 to [1 2]; 0 c 1; 0 w 1; 0 n 1; 0 (2) 1; 2 c 2; 2 w 2; 2 n 2; 2 (2) 2"
	anyText    = "1 from 0 to [0]; 0 c 0; 0 w 0; 0 n 0; 0 (0) 0"
)

func TestLeft(t *testing.T) {
	for _, c := range []struct {
		pattern, want string
		all           bool
	}{
		{"", "1 from 0 to [0]", true},
		{"A", "2 from 0 to [1]; 0 A 1", true},
		{"'a' 1", "3 from 0 to [2]; 1 1 2; 0 'a' 1", true},
		{"s.x", symbolText, true},
		{"s.x s.x", "3 from 0 to [2]; 1 c 2; 1 w 2; 1 n 2; 0 c 1; 0 w 1; 0 n 1", false},
		{"s.x s.y", "3 from 0 to [2]; 1 c 2; 1 w 2; 1 n 2; 0 c 1; 0 w 1; 0 n 1", true},
		{"()", "3 from 0 to [1 2]; 0 (1) 2", true},
	} {
		a, all, e := Left(parsed(t, c.pattern))
		if e != api.OK || all != c.all {
			t.Errorf("Left(%s) = %v, %v", c.pattern, all, e)
		}
		if got := describe(a); len(a.Edges) < 2 && got != c.want || len(a.Edges) != strings.Count(c.want, ";") {
			t.Errorf("Left(%s) = %s, want %s", c.pattern, got, c.want)
		}
	}
	concat := func(l ...regular.Automaton) regular.Automaton {
		a := must(t)(regular.Exactly(nil))
		for _, b := range l {
			a = must(t)(regular.Concat(a, b))
		}
		return a
	}
	wrap := func(a regular.Automaton) regular.Automaton { return must(t)(regular.Wrap(a)) }
	exactly := func(s string) regular.Automaton { return must(t)(regular.Exactly(parsed(t, s))) }
	s := regular.Automaton{States: 2, Final: []int{1}, Edges: []regular.Edge{{To: 1, Kind: 2}, {To: 1, Kind: 3}, {To: 1, Kind: 4}}}
	x := regular.Automaton{States: 3, Final: []int{1, 2}, Edges: []regular.Edge{{To: 1, Kind: 2}, {To: 1, Kind: 3}, {To: 1, Kind: 4}, {To: 1, Kind: 5, Inner: 2},
		{From: 2, To: 2, Kind: 2}, {From: 2, To: 2, Kind: 3}, {From: 2, To: 2, Kind: 4}, {From: 2, To: 2, Kind: 5, Inner: 2}}}
	for _, c := range []struct {
		pattern string
		want    regular.Automaton
	}{
		{"s.1", concat(s)},
		{"t.1", concat(x)},
		{"e.1", concat(regular.Any())},
		{"A B", concat(exactly("A"), exactly("B"))},
		{"s.1 (e.2 s.1) t.3 ()", concat(s, wrap(concat(regular.Any(), s)), x, wrap(concat()))},
		{"((t.1) 'b') e.2 'c'", concat(wrap(concat(wrap(concat(x)), exactly("'b'"))), regular.Any(), exactly("'c'"))},
	} {
		a, _, e := Left(parsed(t, c.pattern))
		if describe(a) != describe(c.want) || e != api.OK {
			t.Errorf("Left(%s) = %s, %v, want %s", c.pattern, describe(a), e, describe(c.want))
		}
	}
}

func TestLeftErrors(t *testing.T) {
	for _, c := range []struct {
		pattern []api.Term
		want    api.Errno
	}{
		{make([]api.Term, 4001), api.ErrCount},
		{parsed(t, "e.1 e.2 <F>"), api.ErrForm},
		{parsed(t, "e.1 A e.2"), api.ErrStrict},
		{parsed(t, "t.1 (t.1)"), api.ErrStrict},
		{parsed(t, "(e.1) e.1 "+symbols(300)), api.ErrStrict},
		{parsed(t, symbols(199)), api.OK}, // 2 * 199 + 2 states ahead of Trim
		{parsed(t, symbols(200)), api.ErrLarge},
		{parsed(t, "("+symbols(199)+")"), api.OK},
		{parsed(t, "("+symbols(200)+")"), api.ErrLarge},
	} {
		a, all, e := Left(c.pattern)
		if e != c.want || e != api.OK && (!none(a) || all) {
			t.Errorf("Left of %d terms = %s, %v, %v, want %v", len(c.pattern), describe(a), all, e, c.want)
		}
		if c.want == api.OK || c.want == api.ErrLarge {
			continue
		}
		if l, ok, e := Variables(c.pattern, regular.Automaton{}); len(l) > 0 || ok || e != c.want {
			t.Errorf("Variables = %v, %v, %v, want %v", l, ok, e, c.want)
		}
	}
}

func edge(from, to, kind, inner int) regular.Edge {
	return regular.Edge{From: from, To: to, Kind: kind, Inner: inner}
}

func one(from, to int, s string) regular.Edge {
	return regular.Edge{From: from, To: to, Kind: regular.One, Symbol: api.Term{Kind: api.Word, Text: s}}
}

func nest(from, inner, to int) regular.Edge { return edge(from, to, regular.Nest, inner) }

// branches accepts `A B` and `B A`, and `(B) A` with brackets.
func branches() regular.Automaton {
	return regular.Automaton{States: 4, Final: []int{3}, Edges: []regular.Edge{
		one(0, 1, "A"), one(0, 2, "B"), one(1, 3, "B"), one(2, 3, "A"), nest(0, 1, 2)}}
}

// nested accepts any brackets, and A.
func nested() regular.Automaton {
	return regular.Automaton{States: 1, Final: []int{0}, Edges: []regular.Edge{nest(0, 0, 0), one(0, 0, "A")}}
}

// chain accepts beginnings of A, B and brackets with any number of C.
func chain() regular.Automaton {
	return regular.Automaton{States: 5, Final: []int{0, 1, 2, 3, 4}, Edges: []regular.Edge{one(0, 1, "A"), one(1, 2, "B"), nest(2, 4, 3), one(4, 4, "C")}}
}

// circle accepts A and B by turns, an even number of them, beginning with either; it has a state that is not needed.
func circle() regular.Automaton {
	return regular.Automaton{States: 4, Start: 1, Final: []int{1, 3}, Edges: []regular.Edge{one(1, 2, "A"), one(2, 3, "B"), one(3, 2, "A"), one(0, 1, "Z"), one(1, 2, "B")}}
}

// split accepts A and X, B and Y, C and Z.
func split() regular.Automaton {
	return regular.Automaton{States: 5, Final: []int{4}, Edges: []regular.Edge{
		one(0, 1, "A"), one(0, 2, "B"), one(0, 3, "C"), one(1, 4, "X"), one(2, 4, "Y"), one(3, 4, "Z")}}
}

// again accepts A or B, X, B or C, B.
func again() regular.Automaton {
	return regular.Automaton{States: 5, Final: []int{4}, Edges: []regular.Edge{
		one(0, 1, "A"), one(0, 1, "B"), one(1, 2, "X"), one(2, 3, "B"), one(2, 3, "C"), one(3, 4, "B")}}
}

func TestVariables(t *testing.T) {
	star := of(t, "Star A")
	for _, c := range []struct {
		pattern string
		a       regular.Automaton
		want    string // of all variables
	}{
		{"", star, ""},
		{"A", star, ""},
		{"B", star, "none"},
		{"(e.1)", star, "none"},
		{"s.1 e.2", regular.Automaton{States: 1}, "none"},
		{"e.1", regular.Automaton{States: 1}, "none"},
		{"s.x e.y", star, "s.x: 2 from 0 to [1]; 0 A 1 | e.y: 1 from 0 to [0]; 0 A 0"},
		{"e.y s.x", star, "e.y: 2 from 0 to [0 1]; 0 A 1; 1 A 1 | s.x: 2 from 0 to [1]; 0 A 1"},
		{"e.y", star, "e.y: 2 from 0 to [0 1]; 0 A 1; 1 A 1"},
		{"s.1 s.2", branches(), "s.1: 2 from 0 to [1]; 0 A 1; 0 B 1 | s.2: 2 from 0 to [1]; 0 B 1; 0 A 1"},
		{"A s.2", branches(), "s.2: 2 from 0 to [1]; 0 B 1"},
		{"s.1 A", branches(), "s.1: 2 from 0 to [1]; 0 B 1"},
		{"s.1 s.1", branches(), "s.1: 2 from 0 to [1]; 0 A 1; 0 B 1"},
		{"t.1 s.2", branches(), "t.1: 4 from 2 to [1 3]; 0 B 1; 2 A 3; 2 B 3; 2 (0) 3 | s.2: 2 from 0 to [1]; 0 B 1; 0 A 1"},
		{"t.1 B", branches(), "t.1: 2 from 0 to [1]; 0 A 1"},
		{"(s.1) e.2", branches(), "s.1: 2 from 0 to [1]; 0 B 1 | e.2: 2 from 0 to [1]; 0 A 1"},
		{"(A) e.2", branches(), "none"},
		{"(e.1) t.2", branches(), "e.1: 2 from 0 to [1]; 0 B 1 | t.2: 2 from 0 to [1]; 0 A 1"},
		{"s.1 e.2 s.3", branches(), "s.1: 2 from 0 to [1]; 0 A 1; 0 B 1 | e.2: 1 from 0 to [0] | s.3: 2 from 0 to [1]; 0 B 1; 0 A 1"},
		{"s.1 s.2 s.3", branches(), "none"},
		// what is in brackets is read by a copy, since there other states are final
		{"e.1", nested(), "e.1: 2 from 0 to [0 1]; 0 (1) 0; 0 A 0; 1 (1) 1; 1 A 1"},
		{"e.1 A", nested(), "e.1: 2 from 0 to [0 1]; 0 (1) 0; 0 A 0; 1 (1) 1; 1 A 1"},
		{"t.1 e.2", nested(), "t.1: 3 from 1 to [0 2]; 0 (0) 0; 0 A 0; 1 (0) 2; 1 A 2 | e.2: 2 from 0 to [0 1]; 0 (1) 0; 0 A 0; 1 (1) 1; 1 A 1"},
		{"(t.1) (s.2 e.3)", nested(), "t.1: 3 from 1 to [0 2]; 0 (0) 0; 0 A 0; 1 (0) 2; 1 A 2 | s.2: 2 from 0 to [1]; 0 A 1 | e.3: 2 from 0 to [0 1]; 0 (1) 0; 0 A 0; 1 (1) 1; 1 A 1"},
		// to some states, from some
		{"e.1 (e.2)", chain(), "e.1: 3 from 0 to [2]; 0 A 1; 1 B 2 | e.2: 1 from 0 to [0]; 0 C 0"},
		{"s.1 e.2 s.3 (e.4)", chain(), "s.1: 2 from 0 to [1]; 0 A 1 | e.2: 1 from 0 to [0] | s.3: 2 from 0 to [1]; 0 B 1 | e.4: 1 from 0 to [0]; 0 C 0"},
		{"t.1 e.2 s.3", circle(), "t.1: 2 from 0 to [1]; 0 A 1; 0 B 1 | e.2: 2 from 0 to [0]; 0 B 1; 1 A 0 | s.3: 2 from 0 to [1]; 0 B 1"},
		{"s.1 e.2", branches(), "s.1: 2 from 0 to [1]; 0 A 1; 0 B 1 | e.2: 3 from 0 to [1 2]; 0 B 1; 0 A 2"},
		{"s.1 e.2", split(), "s.1: 2 from 0 to [1]; 0 A 1; 0 B 1; 0 C 1 | e.2: 4 from 0 to [1 2 3]; 0 X 1; 0 Y 2; 0 Z 3"},
		{"s.1 s.2 s.1 s.1", again(), "s.1: 2 from 0 to [1]; 0 B 1 | s.2: 2 from 0 to [1]; 0 X 1"},
		{"s.1 (s.1)", again(), "none"},
		{"s.1 s.1", split(), "s.1: 1 from 0 to []"},
	} {
		l, ok, e := Variables(parsed(t, c.pattern), c.a)
		var items []string
		for _, v := range l {
			items = append(items, v.Name+": "+describe(v.Type))
		}
		got := strings.Join(items, " | ")
		if !ok {
			got += "none"
		}
		if got != c.want || e != api.OK {
			t.Errorf("Variables(%s) of %s = %s, %v, want %s", c.pattern, describe(c.a), got, e, c.want)
		}
	}
}
