package match_test

import (
	"math/rand"
	"slices"
	"strconv"
	"testing"

	"chiasmus/api"
	"chiasmus/match"
	"chiasmus/term"
)

// generator makes patterns and values; its numbers are the same in each run.
type generator struct{ *rand.Rand }

func newGenerator(seed int64) generator { return generator{rand.New(rand.NewSource(seed))} }

func (g generator) value(most, depth int) []api.Term {
	var l []api.Term
	for range g.Intn(most + 1) {
		switch k := g.Intn(6); {
		case k == 0 && depth > 0:
			l = append(l, api.Term{Kind: api.Group, Kids: g.value(most/2, depth-1)})
		case k == 1:
			l = append(l, api.Term{Kind: api.Number, Text: "1"})
		default:
			l = append(l, term.Chars("ab"[g.Intn(2):][:1])...)
		}
	}
	return l
}

// pattern returns a pattern that matches a value, if no variable gets two values: it replaces parts of the value by variables.
func (g generator) pattern(value []api.Term) []api.Term {
	var l []api.Term
	for i := 0; i < len(value); {
		name := []string{"1", "2", "3", "4"}[g.Intn(4)]
		switch k := g.Intn(8); {
		case k < 3:
			i += g.Intn(len(value) - i + 1)
			l = append(l, api.Term{Kind: api.EVar, Text: name})
			continue
		case k == 3:
			l = append(l, api.Term{Kind: api.TVar, Text: name})
		case value[i].Kind == api.Group:
			l = append(l, api.Term{Kind: api.Group, Kids: g.pattern(value[i].Kids)})
		case k == 4:
			l = append(l, api.Term{Kind: api.SVar, Text: name})
		default:
			l = append(l, value[i])
		}
		i++
	}
	if g.Intn(4) == 0 {
		l = append(l, api.Term{Kind: api.EVar, Text: "5"})
	}
	return l
}

// under returns a pattern with bindings put in.
func under(pattern []api.Term, l []api.Binding) []api.Term {
	var out []api.Term
	for _, t := range pattern {
		if v, ok := match.Find(l, term.Name(t)); ok && term.IsVariable(t) {
			out = append(out, v...)
			continue
		}
		t.Kids = under(t.Kids, l)
		out = append(out, t)
	}
	return out
}

// slow finds all matches in its own way: it puts values of all lengths in, and looks whether the pattern is the value then.
func slow(pattern, value []api.Term, given []api.Binding) [][]api.Binding {
	var names []string
	for _, name := range term.Variables(pattern) {
		if _, ok := match.Find(given, name); !ok {
			names = append(names, name)
		}
	}
	parts := [][]api.Term{nil}
	cut(value, &parts)
	var found [][]api.Binding
	var try func(l []api.Binding)
	try = func(l []api.Binding) {
		if len(l) == len(names) {
			if term.Equal(under(under(pattern, given), l), value) {
				found = append(found, slices.Clone(l))
			}
			return
		}
		for _, part := range parts {
			name := names[len(l)]
			b := api.Binding{Var: name, Value: part}
			if match.Bindings([]api.Binding{b}) == api.OK {
				try(append(slices.Clone(l), b))
			}
		}
	}
	try(nil)
	slices.SortFunc(found, func(a, b []api.Binding) int { return slices.Compare(match.Lengths(a), match.Lengths(b)) })
	return found
}

// cut adds all parts of a value that are lists of terms, each one once.
func cut(l []api.Term, parts *[][]api.Term) {
	for i := range l {
		for j := i + 1; j <= len(l); j++ {
			part := l[i:j]
			if !slices.ContainsFunc(*parts, func(p []api.Term) bool { return term.Equal(p, part) }) {
				*parts = append(*parts, part)
			}
		}
		cut(l[i].Kids, parts)
	}
}

func TestAgainstAllSubstitutions(t *testing.T) {
	g := newGenerator(1)
	several := 0
	for range 3000 {
		value := g.value(5, 2)
		pattern := g.pattern(value)
		if g.Intn(4) == 0 {
			value = g.value(5, 2)
		}
		if len(term.Variables(pattern)) > 3 {
			continue
		}
		var given []api.Binding
		if g.Intn(3) == 0 {
			given = append(given, api.Binding{Var: "e.1", Value: g.value(2, 1)})
		}
		want := slow(pattern, value, given)
		all, e := match.All(pattern, value, given, 1000)
		p, _ := term.Text(pattern)
		v, _ := term.Text(value)
		if textsOf(all) != textsOf(want) || len(all) != len(want) || e != api.OK {
			t.Fatalf("All of %s with %s where %s = %s, %v, want %s", p, v, textOf(given), textsOf(all), e, textsOf(want))
		}
		if len(all) > 1 {
			several++
		}
	}
	if several < 100 {
		t.Errorf("only %d patterns had several matches", several)
	}
}

func TestPromises(t *testing.T) {
	g := newGenerator(2)
	matched := 0
	for range 4000 {
		value := g.value(12, 2)
		pattern := g.pattern(value)
		all, e := match.All(pattern, value, nil, 1000)
		if e != api.OK {
			t.Fatalf("All = %v", e)
		}
		n, e := match.Count(pattern, value, nil)
		if e == api.ErrLarge && len(all) == 1000 {
			n, e = 1000, api.OK
		}
		if n != len(all) || e != api.OK {
			t.Fatalf("Count = %d, %v, but there are %d", n, e, len(all))
		}
		first, e := match.First(pattern, value, nil)
		if len(all) == 0 {
			if e != api.ErrMissing {
				t.Fatalf("First = %v, %v", first, e)
			}
			continue
		}
		matched++
		if textOf(first) != textOf(all[0]) || e != api.OK {
			t.Fatalf("First = %s, %v, but All begins with %s", textOf(first), e, textOf(all[0]))
		}
		checkMatches(t, pattern, value, all)
		checkGiven(t, g, pattern, value, first)
	}
	if matched < 1000 {
		t.Errorf("only %d patterns matched", matched)
	}
}

func checkMatches(t *testing.T, pattern, value []api.Term, all [][]api.Binding) {
	t.Helper()
	for i, m := range all {
		if e := match.Bindings(m); e != api.OK {
			t.Fatalf("match %d has the error %v", i, e)
		}
		if !term.Equal(under(pattern, m), value) {
			t.Fatalf("the pattern under %s is not the value", textOf(m))
		}
		if i > 0 && slices.Compare(match.Lengths(all[i-1]), match.Lengths(m)) >= 0 {
			t.Fatalf("%s is ahead of %s", textOf(all[i-1]), textOf(m))
		}
		for j, name := range term.Variables(pattern) {
			if len(m) <= j || m[j].Var != name {
				t.Fatalf("%s is not in the order of first occurrences", textOf(m))
			}
		}
	}
}

// checkGiven gives a part of the first match, and all of it.
func checkGiven(t *testing.T, g generator, pattern, value []api.Term, first []api.Binding) {
	t.Helper()
	if all, e := match.All(pattern, value, first, 1000); len(all) != 1 || len(all[0]) != 0 || e != api.OK {
		t.Fatalf("given %s there are the matches %s, %v", textOf(first), textsOf(all), e)
	}
	var given, rest []api.Binding
	for _, b := range first {
		if g.Intn(2) == 0 {
			given = append(given, b)
		} else {
			rest = append(rest, b)
		}
	}
	slices.Reverse(given)
	if m, e := match.First(pattern, value, given); textOf(m) != textOf(rest) || e != api.OK {
		t.Fatalf("given %s the first match is %s, %v, not %s", textOf(given), textOf(m), e, textOf(rest))
	}
}

// TestComplete makes values by bindings, and asks for a match that is not later.
func TestComplete(t *testing.T) {
	g := newGenerator(3)
	for range 3000 {
		pattern := g.pattern(g.value(8, 2))
		var l []api.Binding
		for _, name := range term.Variables(pattern) {
			value := g.value(3, 1)
			switch name[0] {
			case 's':
				value = term.Chars("b")
			case 't':
				value = []api.Term{{Kind: api.Group, Kids: value}}
			}
			l = append(l, api.Binding{Var: name, Value: value})
		}
		value := under(pattern, l)
		m, e := match.First(pattern, value, nil)
		if e != api.OK || slices.Compare(match.Lengths(m), match.Lengths(l)) > 0 {
			t.Fatalf("First = %s, %v, later than %s", textOf(m), e, textOf(l))
		}
	}
}

// TestHopeless has patterns for which looking at all lengths one by one would not end in a lifetime.
func TestHopeless(t *testing.T) {
	for _, c := range []struct{ pattern, value string }{
		{"e.1 e.2 e.3 e.4 e.5 e.6 e.7 e.8 e.9 'b'", "'" + long("a", 3000) + "'"},
		{"e.1 'a' e.2 'a' e.3 'a' e.4 'a' e.5 'a' e.6 'a' e.7 'b' e.8", "'" + long("a", 1000) + "'"},
		{"e.1 (e.2 (e.3 'b' e.4) e.5) e.6 'a' e.7 'b' e.8", long("('a' ('b' 'a') 'a') ", 200)},
		{"s.1 e.1 e.2 e.3 e.4 e.5 e.6 e.7 s.1", "'" + long("a", 1000) + "b'"},
		{"e.1 s.1 e.2 s.1 e.3 e.4 e.5 e.6 'b' e.7", "'" + long("a", 60) + "'"},
		{"e.1 s.1 e.2 e.3 e.4 e.5 e.6 e.7 s.1 'b' e.8", "'" + long("a", 80) + "'"},
	} {
		if m, e := match.First(parsed(t, c.pattern), parsed(t, c.value), nil); e != api.ErrMissing {
			t.Errorf("First of %s = %s, %v", c.pattern, textOf(m), e)
		}
	}
	var many []api.Term
	for i := range 3999 {
		many = append(many, api.Term{Kind: api.EVar, Text: strconv.Itoa(i)})
	}
	many = append(many, term.Chars("b")...)
	if _, e := match.First(many, term.Chars(long("a", 4000)), nil); e != api.ErrMissing {
		t.Errorf("First of as many variables as may be: %v", e)
	}
}

// TestLimits has arguments as large and as deep as may be.
func TestLimits(t *testing.T) {
	deep := nested(99)
	pattern := api.Term{Kind: api.EVar, Text: "1"}
	for range 99 {
		pattern = api.Term{Kind: api.Group, Kids: []api.Term{pattern}}
	}
	if m, e := match.First([]api.Term{pattern}, deep, nil); textOf(m) != "e.1[]" || e != api.OK {
		t.Errorf("a deep pattern: %s, %v", textOf(m), e)
	}
	value := term.Chars(long("ab", 2000))
	m, e := match.First(parsed(t, "e.1 'b' s.2"), value, nil)
	if e != api.ErrMissing || len(m) != 0 {
		t.Errorf("a large value: %v", e)
	}
	m, e = match.First(parsed(t, "e.1 s.2"), value, nil)
	if e != api.OK || len(m) != 2 || len(m[0].Value) != 3999 || m[1].Value[0].Text != "b" {
		t.Errorf("a large value: %s, %v", textOf(m), e)
	}
	if n, e := match.Count(value, value, nil); n != 1 || e != api.OK {
		t.Errorf("a large pattern: %d, %v", n, e)
	}
}
