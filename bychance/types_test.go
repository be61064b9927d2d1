package bychance

import (
	"testing"

	"chiasmus/api"
	"chiasmus/field"
	"chiasmus/match"
	"chiasmus/regular"
	"chiasmus/term"
	"chiasmus/types"
)

// typeOf returns the automaton of a pattern.
func typeOf(t *testing.T, pattern string) regular.Automaton {
	t.Helper()
	a, _, e := types.Left(parsed(t, pattern))
	if e != api.OK {
		t.Fatalf("Left(%s) = %v", pattern, e)
	}
	return a
}

// pool returns types that functions may have.
func pool(t *testing.T) []regular.Automaton {
	t.Helper()
	l := []regular.Automaton{regular.Any(), regular.Any(), typeOf(t, "t.1 e.2"), typeOf(t, "e.1 s.2"), typeOf(t, "s.1")}
	for _, pattern := range []string{"s.1", "'a'", "t.1"} {
		star, e := regular.Star(typeOf(t, pattern))
		if e != api.OK {
			t.Fatalf("Star = %v", e)
		}
		l = append(l, star)
	}
	not, e := regular.Not(typeOf(t, "'b' e.1"))
	if e != api.OK {
		t.Fatalf("Not = %v", e)
	}
	return append(l, not)
}

func isOf(t *testing.T, a regular.Automaton, value []api.Term) bool {
	t.Helper()
	ok, e := regular.Has(a, value)
	if e != api.OK {
		t.Fatalf("Has = %v", e)
	}
	return ok
}

// takes reports whether a sentence takes an argument.
func takes(t *testing.T, s api.Sentence, arg []api.Term) bool {
	t.Helper()
	_, e := match.First(s.Left, arg, nil)
	if e != api.OK && e != api.ErrMissing {
		t.Fatalf("First = %v", e)
	}
	return e == api.OK
}

// linear reports whether no variable occurs twice in a pattern.
func linear(pattern []api.Term) bool {
	seen := map[string]bool{}
	var once func(l []api.Term) bool
	once = func(l []api.Term) bool {
		for _, x := range l {
			if name := term.Name(x); name != "" && seen[name] || !once(x.Kids) {
				return false
			} else if name != "" {
				seen[name] = true
			}
		}
		return true
	}
	return once(pattern)
}

// checkGap compares a value that no sentence takes with the sentences.
func checkGap(t *testing.T, f api.Function, arg regular.Automaton, v []api.Term) bool {
	t.Helper()
	if !isOf(t, arg, v) {
		t.Fatalf("the gap %s of %s is no argument", text(v), f.Name)
	}
	all := true
	for _, s := range f.Sentences {
		all = all && linear(s.Left)
	}
	for i, s := range f.Sentences {
		if all && takes(t, s, v) {
			t.Fatalf("the gap %s of %s is taken by the sentence %d", text(v), f.Name, i)
		}
	}
	return all
}

// checkRun runs a call of a program without faults.
func checkRun(t *testing.T, p api.Program, l []types.Type, i int, arg []api.Term) api.Errno {
	t.Helper()
	s, e := field.Run(p, start(t, p, []api.Term{{Kind: api.Call, Text: l[i].Name, Kids: arg}}), 60)
	if e == api.ErrRecognition || e == api.OK && !isOf(t, l[i].Result, s.Field) {
		t.Fatalf("there is no fault, but <%s %s> ends with %s, %v", l[i].Name, text(arg), text(s.Field), e)
	}
	return e
}

// TestTypes has P24.4 and P24.5.
func TestTypes(t *testing.T) {
	g := newGenerator(244)
	g.pure, g.strict = true, true
	some := pool(t)
	n := tally{}
	for range 2000 {
		p, src := g.program(t)
		var l []types.Type
		for _, f := range p.Functions {
			l = append(l, types.Type{Name: f.Name, Arg: some[g.Intn(len(some))], Result: some[g.Intn(2*len(some))%len(some)*g.Intn(2)]})
		}
		faults, e := types.Check(p, l)
		if e == api.ErrLarge {
			n["too large"]++
			continue
		}
		if e != api.OK {
			t.Fatalf("%s: Check = %v", src, e)
		}
		for _, x := range faults {
			n[outcome(x.Code)]++
			if x.Code == types.ErrGap && checkGap(t, p.Functions[x.Function], l[x.Function].Arg, x.Value) {
				n["gap"]++
			}
		}
		for range 20 {
			i, arg := g.Intn(len(l)), parsed(t, g.value(2))
			if len(faults) > 0 || !isOf(t, l[i].Arg, arg) {
				continue
			}
			n["no fault, "+outcome(checkRun(t, p, l, i, arg))]++
		}
		overlaps, e := types.Overlaps(p, l, 0)
		if e != api.OK {
			t.Fatalf("%s: Overlaps = %v", src, e)
		}
		for _, x := range overlaps {
			n["overlap"]++
			if f := p.Functions[0]; !isOf(t, l[0].Arg, x.Value) || !takes(t, f.Sentences[x.Sentence], x.Value) || !takes(t, f.Sentences[x.Path[0]], x.Value) {
				t.Fatalf("%s: %s is not taken by the sentences %d and %d", src, text(x.Value), x.Sentence, x.Path[0])
			}
		}
	}
	n.need(t, 50, "error 261", "error 262", "error 263", "gap", "overlap", "no fault, error 0", "no fault, error 8")
	if n["too large"] > 300 {
		t.Errorf("%d programs are too large", n["too large"])
	}
}
