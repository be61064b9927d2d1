package bychance

import (
	"slices"
	"testing"

	"chiasmus/api"
	"chiasmus/extend"
	"chiasmus/field"
	"chiasmus/match"
	"chiasmus/term"
)

// TestExtend has P12.1: evaluations, as the chapter says it.
func TestExtend(t *testing.T) {
	g := newGenerator(21)
	g.tests, g.meta = true, true
	n := tally{}
	for range 10000 {
		p, src := g.program(t)
		e, fuel := g.expression(t), g.Intn(60)
		x := simple{program: p, fuel: fuel}
		want, code := x.run(e)
		if code == -1 {
			continue
		}
		got, e2 := extend.Run(p, e, fuel)
		if e2 != code || !sameStates(got, want) {
			t.Fatalf("%s: Run of %s with %d = %v, %v, want %v, %v", src, text(e), fuel, got, e2, want, code)
		}
		n[outcome(code)]++
		if code == api.OK && x.most > 3 {
			n["tries"]++
		}
		if code == api.OK && got.Steps > 5 {
			n["long"]++
		}
	}
	n.need(t, 30, "error 0", "error 8", "error 20", "error 21", "error 22", "error 140", "tries", "long")
}

// TestExtendCore has P12.2.
func TestExtendCore(t *testing.T) {
	g := newGenerator(22)
	g.meta = true
	n := tally{}
	for range 3000 {
		p, src := g.program(t)
		e, fuel := g.expression(t), g.Intn(60)
		want, code := field.Run(p, start(t, p, e), fuel)
		got, e2 := extend.Run(p, e, fuel)
		if e2 != code || !sameStates(got, want) {
			t.Fatalf("%s: Run of %s with %d = %v, %v, want %v, %v", src, text(e), fuel, got, e2, want, code)
		}
		n[outcome(code)]++
		first, _ := field.Start(p, e)
		next, code := field.Step(p, first)
		if got, e2 := extend.Step(p, first, 1); e2 != code || !sameStates(got, next) {
			t.Fatalf("%s: Step of %s = %v, %v, want %v, %v", src, text(e), got, e2, next, code)
		}
	}
	n.need(t, 50, "error 0", "error 8", "error 20", "error 21", "error 22")
}

// TestExtendSteps has P12.3.
func TestExtendSteps(t *testing.T) {
	g := newGenerator(23)
	g.tests, g.meta = true, true
	n := tally{}
	for range 4000 {
		p, src := g.program(t)
		e, fuel := g.expression(t), g.Intn(60)
		want, code := extend.Run(p, e, fuel)
		s, e2 := extend.Start(p, e)
		for e2 == api.OK {
			next, stopped := extend.Step(p, s, fuel-s.Steps)
			if stopped == api.ErrClosed {
				break
			}
			if e2 = stopped; e2 == api.OK {
				s = next
			}
		}
		// with an error the store and the steps within the last step are not those of its beginning
		if e2 != code || !term.Equal(s.Field, want.Field) || e2 == api.OK && !sameStates(s, want) {
			t.Fatalf("%s: steps of %s with %d = %v, %v, want %v, %v", src, text(e), fuel, s, e2, want, code)
		}
		n[outcome(code)]++
		if code != api.ErrFuel {
			if got, e3 := extend.Run(p, e, fuel+1+g.Intn(100)); e3 != code || !sameStates(got, want) {
				t.Fatalf("%s: with more fuel the run of %s is %v, %v, not %v, %v", src, text(e), got, e3, want, code)
			}
		}
		if code == api.OK && want.Steps > 0 {
			if _, e3 := extend.Run(p, e, want.Steps-1); e3 != api.ErrFuel {
				t.Fatalf("%s: with less than %d steps the run of %s ends with %v", src, want.Steps, text(e), e3)
			}
		}
	}
	n.need(t, 50, "error 0", "error 8", "error 20", "error 21", "error 22", "error 140")
}

// TestChoices compares Choose with a step of the call.
func TestChoices(t *testing.T) {
	g := newGenerator(24)
	g.tests, g.meta = true, true
	n := tally{}
	for range 5000 {
		p, src := g.program(t)
		arg, fuel := parsed(t, g.value(2)), 1+g.Intn(20)
		c, s, code := extend.Choose(p, "F", arg, fuel)
		call := []api.Term{{Kind: api.Call, Text: "F", Kids: arg}}
		want, e := extend.Step(p, api.State{Field: call}, fuel)
		if e == api.OK {
			want.Steps--
		}
		if code != e || !sameStates(s, want) {
			t.Fatalf("%s: Choose for %s with %d = %v, %v, but the step is %v, %v", src, text(arg), fuel, s, code, want, e)
		}
		n[outcome(code)]++
		if code != api.OK {
			continue
		}
		sentences := p.Functions[0].Sentences
		for depth, i := range c.Path {
			if depth+1 < len(c.Path) {
				sentences = sentences[i].Block
				n["block"]++
				continue
			}
			if !term.Equal(under(sentences[i].Right, c.Bindings), s.Field) || len(sentences[i].Block) > 0 {
				t.Fatalf("%s: Choose for %s = %v, %s", src, text(arg), c, text(s.Field))
			}
		}
		if code := match.Bindings(c.Bindings); code != api.OK {
			t.Fatalf("%s: the bindings for %s have the error %v", src, text(arg), code)
		}
		x := simple{program: p, fuel: fuel}
		if _, l := x.choose(p.Functions[0].Sentences, arg, nil); !sameBindings(l, c.Bindings) {
			t.Fatalf("%s: the bindings for %s are %v, not %v", src, text(arg), c.Bindings, l)
		}
	}
	n.need(t, 5, "error 0", "error 8", "error 20", "error 21", "error 22", "error 140", "block")
}

// TestCommit has P12.4: sentences behind the one that is taken, and conditions that cannot hold.
func TestCommit(t *testing.T) {
	g := newGenerator(25)
	g.tests = true
	taken := 0
	for range 3000 {
		p, src := g.program(t)
		arg := parsed(t, g.value(2))
		c, s, code := extend.Choose(p, "F", arg, 30)
		if code != api.OK {
			continue
		}
		// an own function with the sentences of F, which nothing calls by its name
		taken++
		first := p.Functions[0]
		first.Name = "First-of-all"
		others, _ := g.program(t)
		first.Sentences = slices.Concat(first.Sentences[:c.Path[0]+1], others.Functions[0].Sentences)
		q := api.Program{Functions: append(slices.Clone(p.Functions), first)}
		if c2, s2, code := extend.Choose(q, "First-of-all", arg, 30); code != api.OK || !slices.Equal(c2.Path, c.Path) || !sameStates(s, s2) || !sameBindings(c2.Bindings, c.Bindings) {
			t.Fatalf("%s: with other sentences behind the choice for %s is %v, %v, %v", src, text(arg), c2, s2, code)
		}
		never := api.Sentence{
			Left:  []api.Term{{Kind: api.EVar, Text: "never"}},
			Tests: []api.Test{{Expr: term.Chars("a"), Pattern: term.Chars("b")}},
		}
		for i, f := range p.Functions {
			q.Functions[i].Sentences = slices.Insert(slices.Clone(f.Sentences), g.Intn(len(f.Sentences)+1), never)
		}
		e := []api.Term{{Kind: api.Call, Text: "F", Kids: arg}}
		want, code := extend.Run(p, e, 30)
		if got, e2 := extend.Run(q, e, 30); code == api.OK && (e2 != api.OK || !sameStates(got, want)) {
			t.Fatalf("%s: with conditions that cannot hold the run of %s is %v, %v, not %v", src, text(e), got, e2, want)
		}
	}
	if taken < 500 {
		t.Errorf("only %d values were taken", taken)
	}
}

// TestConditions has P12.5: conditions that are matches, and those that bind values.
func TestConditions(t *testing.T) {
	g := newGenerator(26)
	n := tally{}
	for range 4000 {
		pattern, _ := g.pattern(nil, 2)
		value := parsed(t, g.value(2))
		right := append(parsed(t, "x"), parsed(t, pattern)...)
		s := api.Sentence{Left: parsed(t, "e.all"), Tests: []api.Test{{Expr: parsed(t, "e.all"), Pattern: parsed(t, pattern)}}, Right: right}
		p := api.Program{Functions: []api.Function{{Name: "F", Sentences: []api.Sentence{s}}}}
		want, e := match.First(parsed(t, pattern), value, nil)
		c, got, code := extend.Choose(p, "F", value, 9)
		n[outcome(e)]++
		if e == api.ErrMissing {
			if code != api.ErrRecognition {
				t.Fatalf("%s with %s: Choose = %v", pattern, text(value), code)
			}
			continue
		}
		if code != api.OK || !sameBindings(c.Bindings[1:], want) || !term.Equal(got.Field[1:], value) {
			t.Fatalf("%s with %s: Choose = %v, %v", pattern, text(value), c, code)
		}
	}
	n.need(t, 500, "error 0", "error 9")
	for range 2000 {
		p, src := g.program(t)
		arg := parsed(t, g.value(2))
		expr := parsed(t, g.result([]string{"e.all"}, 2))
		s := api.Sentence{Left: parsed(t, "e.all"), Tests: []api.Test{{Expr: expr, Pattern: parsed(t, "e.new")}}, Right: parsed(t, "e.new")}
		p.Functions = append(p.Functions, api.Function{Name: "New", Sentences: []api.Sentence{s}})
		_, got, code := extend.Choose(p, "New", arg, 50)
		want, e := extend.Run(p, under(expr, []api.Binding{{Var: "e.all", Value: arg}}), 49)
		if code != e || code == api.OK && !sameStates(got, want) {
			t.Fatalf("%s: %s of %s: Choose = %v, %v, but the value is %v, %v", src, text(expr), text(arg), got, code, want, e)
		}
	}
}
