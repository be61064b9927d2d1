package apply_test

import (
	"math/rand"
	"testing"

	"chiasmus/api"
	"chiasmus/apply"
	"chiasmus/match"
	"chiasmus/term"
)

// generator makes expressions and substitutions; its numbers are the same in each run.
type generator struct{ *rand.Rand }

func newGenerator(seed int64) generator { return generator{rand.New(rand.NewSource(seed))} }

func (g generator) name() string { return "abc"[g.Intn(3):][:1] }

// expression returns one whose terms have kinds up to last.
func (g generator) expression(last, depth int) []api.Term {
	var l []api.Term
	for range g.Intn(5) {
		l = append(l, g.term(last, depth))
	}
	return l
}

func (g generator) term(last, depth int) api.Term {
	switch k := 1 + g.Intn(last); {
	case k == api.Number:
		return api.Term{Kind: k, Text: "7"}
	case k == api.Group && depth > 0:
		return api.Term{Kind: k, Kids: g.expression(last, depth-1)}
	case k == api.Call && depth > 0:
		return api.Term{Kind: k, Text: "F", Kids: g.expression(last, depth-1)}
	case api.SVar <= k && k <= api.EVar:
		return api.Term{Kind: k, Text: g.name()}
	}
	return api.Term{Kind: api.Char, Text: g.name()}
}

func (g generator) substitution() []api.Binding {
	var l []api.Binding
	seen := map[string]bool{}
	for range g.Intn(6) {
		v := g.term(api.EVar, 0)
		if !term.IsVariable(v) || seen[term.Name(v)] {
			continue
		}
		seen[term.Name(v)] = true
		b := api.Binding{Var: term.Name(v), Value: g.expression(api.Call, 1)}
		switch v.Kind {
		case api.SVar:
			b.Value = []api.Term{g.term(api.SVar, 0)}
		case api.TVar:
			b.Value = []api.Term{g.term(api.TVar, 1)}
		}
		l = append(l, b)
	}
	return l
}

func to(t *testing.T, l []api.Term, b []api.Binding) []api.Term {
	t.Helper()
	out, e := apply.To(l, b)
	if e != api.OK {
		t.Fatalf("To of %s by %s = %v", text(l), textOf(b), e)
	}
	return out
}

func compose(t *testing.T, a, b []api.Binding) []api.Binding {
	t.Helper()
	l, e := apply.Compose(a, b)
	if e != api.OK || apply.Check(l) != api.OK {
		t.Fatalf("Compose of %s and %s = %s, %v, %v", textOf(a), textOf(b), textOf(l), e, apply.Check(l))
	}
	return l
}

func TestComposition(t *testing.T) {
	g := newGenerator(1)
	for range 3000 {
		a, b, c := g.substitution(), g.substitution(), g.substitution()
		e := g.expression(api.Call, 2)
		if x, y := to(t, e, compose(t, a, b)), to(t, to(t, e, a), b); !term.Equal(x, y) {
			t.Fatalf("%s by %s and %s: %s, %s", text(e), textOf(a), textOf(b), text(x), text(y))
		}
		x, y := compose(t, compose(t, a, b), c), compose(t, a, compose(t, b, c))
		if textOf(x) != textOf(y) {
			t.Fatalf("Compose of %s, %s and %s: %s, %s", textOf(a), textOf(b), textOf(c), textOf(x), textOf(y))
		}
	}
}

func TestRenamings(t *testing.T) {
	g := newGenerator(2)
	renamings := 0
	for range 5000 {
		a := g.expression(api.Call, 2)
		fresh, renaming, e := apply.Fresh(a, g.Intn(20))
		if e != api.OK || !term.Equal(to(t, a, renaming), fresh) {
			t.Fatalf("Fresh of %s = %s, %s, %v", text(a), text(fresh), textOf(renaming), e)
		}
		if l, ok := apply.Renaming(a, fresh); !ok || textOf(l) != textOf(renaming) {
			t.Fatalf("Renaming of %s to its Fresh = %s, %v", text(a), textOf(l), ok)
		}
		b := to(t, a, g.renaming())
		if g.Intn(3) == 0 {
			b = g.expression(api.Call, 2)
		}
		there, ok := apply.Renaming(a, b)
		back, also := apply.Renaming(b, a)
		freshA, _, _ := apply.Fresh(a, 9)
		freshB, _, _ := apply.Fresh(b, 9)
		if ok != also || ok != term.Equal(freshA, freshB) {
			t.Fatalf("Renaming of %s to %s: %v, and back %v", text(a), text(b), ok, also)
		}
		if ok {
			renamings++
			if !term.Equal(to(t, a, there), b) || !term.Equal(to(t, b, back), a) {
				t.Fatalf("Renaming of %s to %s = %s, and back %s", text(a), text(b), textOf(there), textOf(back))
			}
		}
	}
	if renamings < 1000 || renamings > 4900 {
		t.Errorf("there were %d renamings", renamings)
	}
}

// renaming renames variables, sometimes two to the same one.
func (g generator) renaming() []api.Binding {
	var l []api.Binding
	for _, kind := range []int{api.SVar, api.TVar, api.EVar} {
		for i, k := range g.Perm(3) {
			if g.Intn(20) == 0 {
				k = 0
			}
			v, to := api.Term{Kind: kind, Text: "abc"[i:][:1]}, api.Term{Kind: kind, Text: "abc"[k:][:1]}
			l = append(l, api.Binding{Var: term.Name(v), Value: []api.Term{to}})
		}
	}
	return l
}

func TestParts(t *testing.T) {
	g := newGenerator(3)
	for range 2000 {
		a, b, l := g.expression(api.Call, 2), g.expression(api.Call, 2), g.substitution()
		both := to(t, append(term.Copy(a), b...), l)
		if !term.Equal(both, append(to(t, a, l), to(t, b, l)...)) {
			t.Fatalf("To of %s and %s by %s = %s", text(a), text(b), textOf(l), text(both))
		}
	}
}

func TestMatches(t *testing.T) {
	g := newGenerator(4)
	matched := 0
	for range 5000 {
		pattern, value := g.expression(api.EVar, 2), g.expression(api.Group, 2)
		all, _ := match.All(pattern, value, nil, 5)
		for _, m := range all {
			matched++
			if v := to(t, pattern, m); !term.Equal(v, value) {
				t.Fatalf("%s by %s is %s, not %s", text(pattern), textOf(m), text(v), text(value))
			}
		}
	}
	if matched < 500 {
		t.Errorf("only %d matches", matched)
	}
}

// TestNextIsFree renames with the number that Next gives: no variable is caught.
func TestNextIsFree(t *testing.T) {
	g := newGenerator(5)
	for range 1000 {
		e, _, _ := apply.Fresh(g.expression(api.Call, 2), g.Intn(100))
		again, _, _ := apply.Fresh(e, apply.Next(e))
		seen := map[string]bool{}
		for _, v := range term.Variables(e) {
			seen[v[2:]] = true
		}
		for _, v := range term.Variables(again) {
			if seen[v[2:]] {
				t.Fatalf("Next of %s is %d", text(e), apply.Next(e))
			}
		}
	}
}
