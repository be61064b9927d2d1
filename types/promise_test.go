package types

import (
	"math/rand"
	"testing"

	"chiasmus/api"
	"chiasmus/match"
	"chiasmus/regular"
	"chiasmus/term"
)

// generator makes patterns, automata and values; its numbers are the same in each run.
type generator struct{ *rand.Rand }

func newGenerator(seed int64) generator { return generator{rand.New(rand.NewSource(seed))} }

// few returns the symbols of automata, patterns and values.
func few() []api.Term {
	return []api.Term{{Kind: api.Char, Text: "a"}, {Kind: api.Char, Text: "b"}, {Kind: api.Word, Text: "A"}, {Kind: api.Number, Text: "1"}}
}

func (g generator) symbol() api.Term { return few()[g.Intn(len(few()))] }

// pattern returns a strict pattern.
func (g generator) pattern(depth int, next *int) []api.Term {
	var l []api.Term
	open := false
	for range g.Intn(4) {
		kind := []int{api.Char, api.SVar, api.SVar, api.TVar, api.EVar, api.Group}[g.Intn(6)]
		*next++
		x := api.Term{Kind: kind, Text: string(rune('a' + *next))}
		switch {
		case kind == api.Char || kind == api.EVar && open || kind == api.Group && depth == 0:
			x = g.symbol()
		case kind == api.SVar && g.Intn(3) == 0:
			x.Text = "r" // it may be repeated
		case kind == api.EVar:
			open = true
		case kind == api.Group:
			x.Text, x.Kids = "", g.pattern(depth-1, next)
		}
		l = append(l, x)
	}
	return l
}

// automaton returns one of a few states and edges.
func (g generator) automaton(states, edges int) regular.Automaton {
	a := regular.Automaton{States: 1 + g.Intn(states)}
	for q := range a.States {
		if g.Intn(2) == 0 {
			a.Final = append(a.Final, q)
		}
	}
	for range edges/2 + g.Intn(edges/2) {
		x := regular.Edge{From: g.Intn(a.States), To: g.Intn(a.States), Kind: 1 + g.Intn(5)}
		switch x.Kind {
		case regular.One:
			x.Symbol = g.symbol()
		case regular.Nest:
			x.Inner = g.Intn(a.States)
		case regular.Chars:
			x.Except = few()[g.Intn(2):][:1]
		}
		a.Edges = append(a.Edges, x)
	}
	return a
}

// valueOf returns a value by a walk through an automaton, perhaps one that it accepts.
func (g generator) valueOf(a regular.Automaton, q, depth int) []api.Term {
	var l []api.Term
	for range 5 {
		var out []regular.Edge
		for _, x := range a.Edges {
			if x.From == q {
				out = append(out, x)
			}
		}
		if len(out) == 0 || g.Intn(5) == 0 {
			break
		}
		x := out[g.Intn(len(out))]
		t := api.Term{Kind: api.Group}
		if x.Kind == regular.Nest && depth > 0 {
			t.Kids = g.valueOf(a, x.Inner, depth-1)
		}
		for x.Kind != regular.Nest && !x.Reads(t) {
			t = g.symbol()
		}
		l = append(l, t)
		q = x.To
	}
	return l
}

func has(t *testing.T, a regular.Automaton, v []api.Term) bool {
	t.Helper()
	ok, e := regular.Has(a, v)
	if e != api.OK {
		t.Fatalf("Has = %v", e)
	}
	return ok
}

// matches returns the match of a strict pattern; false, if there is none.
func matches(t *testing.T, pattern, v []api.Term) ([]api.Binding, bool) {
	t.Helper()
	l, e := match.First(pattern, v, nil)
	if e != api.OK && e != api.ErrMissing {
		t.Fatalf("First = %v", e)
	}
	return l, e == api.OK
}

// TestLefts has P24.2.
func TestLefts(t *testing.T) {
	g := newGenerator(242)
	held, repeated := 0, 0
	for range 2000 {
		n := 0
		pattern := g.pattern(2, &n)
		a, all, e := Left(pattern)
		if e != api.OK {
			t.Fatalf("Left(%s) = %v", text(pattern), e)
		}
		for i := range 20 {
			v := g.valueOf(regular.Any(), 0, 2)
			if i%2 == 0 {
				v = g.valueOf(a, a.Start, 2)
			}
			_, ok := matches(t, pattern, v)
			if in := has(t, a, v); ok && !in || in && !ok && all {
				t.Fatalf("the automaton of %s, which is %s, has %s: %v, but it matches: %v", text(pattern), describe(a), text(v), in, ok)
			} else if ok {
				held++
			} else if in {
				repeated++
			}
		}
	}
	if held < 5000 || repeated < 100 {
		t.Errorf("only %d matches, %d of repeated variables", held, repeated)
	}
}

// TestTypesOfVariables has P24.3, and that each type has no other values, where one variable stands alone.
func TestTypesOfVariables(t *testing.T) {
	g := newGenerator(243)
	held, not := 0, 0
	for range 3000 {
		n := 0
		pattern := g.pattern(2, &n)
		a := g.automaton(3, 10)
		l, ok, e := Variables(pattern, a)
		if e != api.OK {
			t.Fatalf("Variables(%s) of %s = %v", text(pattern), describe(a), e)
		}
		if left, _, _ := Left(pattern); !ok {
			both := must(t)(regular.Both(left, a))
			if v, found, _ := regular.Least(both); found {
				t.Fatalf("%s of %s has no variables, but it has %s", text(pattern), describe(a), text(v))
			}
			not++
		}
		for i := range 20 {
			v := g.valueOf(a, a.Start, 2)
			if i%2 == 0 {
				left, _, _ := Left(pattern)
				both := must(t)(regular.Both(left, a))
				v = g.valueOf(both, both.Start, 2)
			}
			bindings, matched := matches(t, pattern, v)
			if !matched || !has(t, a, v) {
				continue
			}
			if !ok {
				t.Fatalf("%s of %s has no variables, but it matches %s", text(pattern), describe(a), text(v))
			}
			held++
			for _, b := range bindings {
				for _, x := range l {
					if x.Name == b.Var && !has(t, x.Type, b.Value) {
						t.Fatalf("%s of %s: %s is no value of %s, which is %s", text(pattern), describe(a), text(b.Value), x.Name, describe(x.Type))
					}
				}
			}
			if len(l) != len(bindings) {
				t.Fatalf("%s has the types of %d variables", text(pattern), len(l))
			}
		}
		checkNoMore(t, pattern, a, l)
	}
	if held < 5000 || not < 500 {
		t.Errorf("only %d matches, %d without", held, not)
	}
}

// checkNoMore fails, if the type of a variable has values that no value of the automaton gives it. The others may have any values:
// they do not depend on this one, as patterns of a single level show.
func checkNoMore(t *testing.T, pattern []api.Term, a regular.Automaton, l []Variable) {
	t.Helper()
	for i, x := range pattern {
		name := term.Name(x)
		for _, v := range l {
			if v.Name != name || v.Name == "s.r" {
				continue
			}
			least, ok, e := regular.Least(v.Type)
			if e != api.OK || !ok {
				t.Fatalf("%s of %s: the type of %s, which is %s, has no value, %v", text(pattern), describe(a), v.Name, describe(v.Type), e)
			}
			bound := append(append(append([]api.Term{}, pattern[:i]...), least...), pattern[i+1:]...)
			left, _, e := Left(bound)
			if e != api.OK {
				t.Fatalf("Left(%s) = %v", text(bound), e)
			}
			if _, ok, _ := regular.Least(must(t)(regular.Both(left, a))); !ok {
				t.Fatalf("%s of %s: the type of %s has %s, but nothing gives it to it", text(pattern), describe(a), v.Name, text(least))
			}
		}
	}
}
