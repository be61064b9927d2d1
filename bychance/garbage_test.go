package bychance

import (
	"slices"
	"testing"

	"chiasmus/api"
	"chiasmus/check"
	"chiasmus/desugar"
	"chiasmus/extend"
	"chiasmus/field"
	"chiasmus/term"
	"chiasmus/trace"
)

// garbage returns an expression of which nothing is right but by chance.
func (g *generator) garbage(depth int) []api.Term {
	var l []api.Term
	for range g.Intn(3) {
		t := api.Term{Kind: g.Intn(10), Text: g.one("a", "F", "G", "1", "", "x y", "Add", "-", "\xff")}
		if g.Intn(20) == 0 {
			t.Kind = -1
		}
		if (t.Kind == api.Group || t.Kind == api.Call || g.Intn(10) == 0) && depth > 0 {
			t.Kids = g.garbage(depth - 1)
		}
		if t.Kind == api.Group && g.Intn(5) > 0 {
			t.Text = ""
		}
		l = append(l, t)
	}
	return l
}

func (g *generator) garbageSentences(depth int) []api.Sentence {
	var l []api.Sentence
	for range g.Intn(3) {
		s := api.Sentence{Left: g.garbage(2), Right: g.garbage(2)}
		if g.Intn(3) == 0 {
			s.Tests = []api.Test{{Expr: g.garbage(2), Pattern: g.garbage(2)}}
		}
		if g.Intn(4) == 0 {
			s.Subject = g.garbage(2)
		}
		if g.Intn(4) == 0 && depth > 0 {
			s.Block = g.garbageSentences(depth - 1)
		}
		l = append(l, s)
	}
	return l
}

func (g *generator) garbageProgram() api.Program {
	var p api.Program
	for range g.Intn(3) {
		p.Functions = append(p.Functions, api.Function{Name: g.one("F", "G", "1", "", "Add"), Sentences: g.garbageSentences(2)})
	}
	return p
}

func isZero(s api.State) bool {
	return len(s.Field) == 0 && len(s.Store.Buried) == 0 && len(s.Store.Output) == 0 && s.Steps == 0
}

// TestGarbage calls all functions with arguments that are right by chance alone: none of them panics, and with an error
// in the arguments there are zero values.
func TestGarbage(t *testing.T) {
	g := newGenerator(51)
	n := tally{}
	for range 20000 {
		p, e, fuel := g.garbageProgram(), g.garbage(3), g.Intn(30)-2
		s := api.State{Field: e, Steps: g.Intn(5) - 1, Store: api.Store{Buried: []api.Buried{{Key: g.garbage(1), Value: g.garbage(1)}}}}
		_, code := check.Program(p)
		path, ok := field.Active(e)
		if ok != term.Calls(e) || !slices.Equal(path, active(e, nil)) {
			t.Fatalf("Active of %v = %v, %v", e, path, ok)
		}
		next, stepped := field.Step(p, s)
		run, ran := field.Run(p, s, fuel)
		extended, stepped2 := extend.Step(p, s, fuel)
		if field.Check(s) != api.OK && (stepped == api.OK || ran == api.OK || stepped2 == api.OK || !isZero(next) || !isZero(run) || !isZero(extended)) {
			t.Fatalf("of the state %v a step is %v, a run %v, %v", s, stepped, ran, stepped2)
		}
		number, l, chosen := field.Sentence(p, s)
		if stepped != api.OK && !isZero(next) || stepped2 != api.OK && !isZero(extended) || chosen != api.OK && (number != 0 || len(l) != 0) {
			t.Fatalf("with an error there are %v, %v, %v, %v", next, extended, number, l)
		}
		value, steps, valued := field.Value(p, e, fuel)
		choice, result, taken := extend.Choose(p, g.one("F", "G", "1", ""), e, fuel)
		if valued != api.OK && (len(value) != 0 || steps != 0) || taken != api.OK && (!isZero(result) || len(choice.Path) != 0 || len(choice.Bindings) != 0) {
			t.Fatalf("with an error there are %v, %d, %v, %v", value, steps, choice, result)
		}
		q, removed := desugar.Program(p)
		part, parted := desugar.Function(p, fuel)
		origin, found := desugar.Origin(p, g.one("F", "F-1", "1"))
		if removed != api.OK && len(q.Functions) != 0 || parted != api.OK && len(part) != 0 || found != api.OK && origin != "" {
			t.Fatalf("with an error there are %v, %v, %s", q, part, origin)
		}
		if code != api.OK && (stepped != code || ran != code || stepped2 != code || chosen != code || valued != code || taken != code || removed != code || parted != code || found != code) {
			t.Fatalf("the program %v has the error %v, but a step %v", p, code, stepped)
		}
		events, traced := trace.Steps(p, e, fuel)
		nodes, traced2 := trace.Tree(p, e, fuel)
		if traced2 != traced || len(nodes) != len(events) {
			t.Fatalf("there are %d events, %v, and %d nodes, %v", len(events), traced, len(nodes), traced2)
		}
		if r, made := trace.New(p, e); made == api.OK {
			r.Forth(fuel)
			r.Back(fuel)
			r.To([]trace.Stop{{Function: g.one("F", ""), Pattern: g.garbage(1)}}, fuel)
			n["recorders"]++
		}
		n[outcome(stepped)]++
		n[outcome(removed)]++
	}
	n.need(t, 100, "error 0", "error 130", "recorders", outcome(api.ErrForm), outcome(check.ErrName), outcome(check.ErrUnbound))
}
