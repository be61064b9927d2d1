package bychance

import (
	"testing"

	"chiasmus/api"
	"chiasmus/check"
	"chiasmus/decide"
	"chiasmus/engine"
	"chiasmus/field"
	"chiasmus/match"
	"chiasmus/term"
)

// choices are what is done to choose sentences: by graphs, and without them.
type choices struct{ steps, questions, tries, all int }

// count adds what is done to choose a sentence for the active call of a state.
func (c *choices) count(t *testing.T, p api.Program, s api.State) {
	t.Helper()
	path, _ := field.Active(s.Field)
	call, _ := term.At(s.Field, path)
	i := check.Find(p, call.Text)
	if nodes, _ := term.Size(call.Kids); i < 0 || nodes > api.MaxNodes {
		return
	}
	l := p.Functions[i].Sentences
	g, e := decide.Build(l)
	if e != api.OK {
		t.Fatalf("Build = %v", e)
	}
	left, questions, e := decide.Tries(g, call.Kids)
	if e != api.OK {
		t.Fatalf("Tries = %v", e)
	}
	c.steps++
	c.questions += questions
	for _, i := range left {
		c.tries++
		if _, e := match.First(l[i].Left, call.Kids, nil); e == api.OK {
			break
		}
	}
	for _, s := range l {
		c.all++
		if _, e := match.First(s.Left, call.Kids, nil); e == api.OK {
			break
		}
	}
}

// choicesOf counts those of a run of the definition.
func choicesOf(t *testing.T, p api.Program, e []api.Term, fuel int) choices {
	t.Helper()
	var c choices
	s := start(t, p, e)
	for range fuel {
		if !term.Calls(s.Field) {
			break
		}
		c.count(t, p, s)
		next, e := field.Step(p, s)
		if e != api.OK {
			break
		}
		s = next
	}
	return c
}

// TestEngine has P21.2 to P21.4: runs of one engine, one after the other, are those of the definition.
func TestEngine(t *testing.T) {
	g := newGenerator(24)
	g.meta = true
	n := tally{}
	fewer := 0
	for range 1500 {
		p, src := g.program(t)
		x, code := engine.New(p)
		if code != api.OK {
			t.Fatalf("New = %v", code)
		}
		var want choices
		for range 4 {
			e, fuel := g.expression(t), g.Intn(60)
			state, code := field.Run(p, start(t, p, e), fuel)
			got, e2 := x.Run(e, fuel)
			if e2 != code || !sameStates(got, state) {
				t.Fatalf("%s: Run of %s with %d = %v, %v, want %v, %v", src, text(e), fuel, got, e2, state, code)
			}
			n[outcome(code)]++
			c := choicesOf(t, p, e, fuel)
			if c.tries > c.all || code == api.OK && c.tries < c.steps {
				t.Fatalf("%s: %d sentences are tried in %d steps, not %d", src, c.tries, c.steps, c.all)
			}
			fewer += c.all - c.tries
			want.questions, want.tries = want.questions+c.questions, want.tries+c.tries
			if questions, tries := x.Asked(); questions != want.questions || tries != want.tries {
				t.Fatalf("%s: behind %s Asked = %d, %d, want %d, %d", src, text(e), questions, tries, want.questions, want.tries)
			}
			if again, e3 := engine.Run(p, e, fuel); e3 != code || !sameStates(again, state) {
				t.Fatalf("%s: Run of %s with %d = %v, %v, want %v, %v", src, text(e), fuel, again, e3, state, code)
			}
			if ok, e4 := engine.Both(p, e, fuel); !ok || e4 != api.OK {
				t.Fatalf("%s: Both of %s with %d = %v, %v", src, text(e), fuel, ok, e4)
			}
		}
	}
	n.need(t, 100, "error 0", "error 8", "error 20", "error 21", "error 22")
	if fewer < 1000 {
		t.Errorf("only %d sentences were left out", fewer)
	}
}
