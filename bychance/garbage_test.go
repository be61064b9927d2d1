package bychance

import (
	"slices"
	"testing"

	"chiasmus/api"
	"chiasmus/check"
	"chiasmus/code"
	"chiasmus/desugar"
	"chiasmus/engine"
	"chiasmus/extend"
	"chiasmus/field"
	"chiasmus/machine"
	"chiasmus/project"
	"chiasmus/term"
	"chiasmus/trace"
)

// garbage returns an expression of which nothing is right but by chance.
func (g *generator) garbage(depth int) []api.Term {
	var l []api.Term
	for range g.Intn(3) {
		t := api.Term{Kind: g.Intn(10), Text: g.one("a", "F", "G", "1", "", "x y", "Add", "-", "\xff")}
		if g.Intn(20) == 0 {
			t.Kind = -1
		}
		if (t.Kind == api.Group || t.Kind == api.Call || g.Intn(10) == 0) && depth > 0 {
			t.Kids = g.garbage(depth - 1)
		}
		if t.Kind == api.Group && g.Intn(5) > 0 {
			t.Text = ""
		}
		l = append(l, t)
	}
	return l
}

func (g *generator) garbageSentences(depth int) []api.Sentence {
	var l []api.Sentence
	for range g.Intn(3) {
		s := api.Sentence{Left: g.garbage(2), Right: g.garbage(2)}
		if g.Intn(3) == 0 {
			s.Tests = []api.Test{{Expr: g.garbage(2), Pattern: g.garbage(2)}}
		}
		if g.Intn(4) == 0 {
			s.Subject = g.garbage(2)
		}
		if g.Intn(4) == 0 && depth > 0 {
			s.Block = g.garbageSentences(depth - 1)
		}
		l = append(l, s)
	}
	return l
}

func (g *generator) garbageProgram() api.Program {
	var p api.Program
	for range g.Intn(3) {
		p.Functions = append(p.Functions, api.Function{Name: g.one("F", "G", "1", "", "Add"), Sentences: g.garbageSentences(2)})
	}
	return p
}

func isZero(s api.State) bool {
	return len(s.Field) == 0 && len(s.Store.Buried) == 0 && len(s.Store.Output) == 0 && s.Steps == 0
}

// TestGarbage calls all functions with arguments that are right by chance alone: none of them panics, and with an error
// in the arguments there are zero values.
func TestGarbage(t *testing.T) {
	g := newGenerator(51)
	n := tally{}
	for range 20000 {
		p, e, fuel := g.garbageProgram(), g.garbage(3), g.Intn(30)-2
		s := api.State{Field: e, Steps: g.Intn(5) - 1, Store: api.Store{Buried: []api.Buried{{Key: g.garbage(1), Value: g.garbage(1)}}}}
		_, code := check.Program(p)
		path, ok := field.Active(e)
		if ok != term.Calls(e) || !slices.Equal(path, active(e, nil)) {
			t.Fatalf("Active of %v = %v, %v", e, path, ok)
		}
		next, stepped := field.Step(p, s)
		run, ran := field.Run(p, s, fuel)
		extended, stepped2 := extend.Step(p, s, fuel)
		if field.Check(s) != api.OK && (stepped == api.OK || ran == api.OK || stepped2 == api.OK || !isZero(next) || !isZero(run) || !isZero(extended)) {
			t.Fatalf("of the state %v a step is %v, a run %v, %v", s, stepped, ran, stepped2)
		}
		number, l, chosen := field.Sentence(p, s)
		if stepped != api.OK && !isZero(next) || stepped2 != api.OK && !isZero(extended) || chosen != api.OK && (number != 0 || len(l) != 0) {
			t.Fatalf("with an error there are %v, %v, %v, %v", next, extended, number, l)
		}
		value, steps, valued := field.Value(p, e, fuel)
		choice, result, taken := extend.Choose(p, g.one("F", "G", "1", ""), e, fuel)
		if valued != api.OK && (len(value) != 0 || steps != 0) || taken != api.OK && (!isZero(result) || len(choice.Path) != 0 || len(choice.Bindings) != 0) {
			t.Fatalf("with an error there are %v, %d, %v, %v", value, steps, choice, result)
		}
		q, removed := desugar.Program(p)
		part, parted := desugar.Function(p, fuel)
		origin, found := desugar.Origin(p, g.one("F", "F-1", "1"))
		if removed != api.OK && len(q.Functions) != 0 || parted != api.OK && len(part) != 0 || found != api.OK && origin != "" {
			t.Fatalf("with an error there are %v, %v, %s", q, part, origin)
		}
		if code != api.OK && (stepped != code || ran != code || stepped2 != code || chosen != code || valued != code || taken != code || removed != code || parted != code || found != code) {
			t.Fatalf("the program %v has the error %v, but a step %v", p, code, stepped)
		}
		events, traced := trace.Steps(p, e, fuel)
		nodes, traced2 := trace.Tree(p, e, fuel)
		if traced2 != traced || len(nodes) != len(events) {
			t.Fatalf("there are %d events, %v, and %d nodes, %v", len(events), traced, len(nodes), traced2)
		}
		if r, made := trace.New(p, e); made == api.OK {
			r.Forth(fuel)
			r.Back(fuel)
			r.To([]trace.Stop{{Function: g.one("F", ""), Pattern: g.garbage(1)}}, fuel)
			n["recorders"]++
		}
		n[outcome(stepped)]++
		n[outcome(removed)]++
	}
	n.need(t, 100, "error 0", "error 130", "recorders", outcome(api.ErrForm), outcome(check.ErrName), outcome(check.ErrUnbound))
}

// garbageUnit returns a unit of which nothing is right but by chance, or one that is right, but for what was spoiled.
func (g *generator) garbageUnit(t *testing.T) code.Unit {
	if g.Intn(3) > 0 {
		p, _ := g.program(t)
		u := unitOf(t, p)
		for range g.Intn(2) {
			g.spoil(u)
		}
		return u
	}
	var u code.Unit
	for range g.Intn(3) {
		r := code.Routine{Name: g.one("F", "G", "1", "")}
		for range g.Intn(3) {
			var rule code.Rule
			for range g.Intn(3) {
				rule.Plan.Ops = append(rule.Plan.Ops, project.Op{Kind: g.Intn(10), Hole: g.Intn(3) - 1, Var: g.one("", "s.1", "e.2", "x")})
				rule.Build = append(rule.Build, code.Ins{Kind: g.Intn(10) - 1, Text: g.one("", "F", "s.1", "e.2", "\xff")})
			}
			r.Rules = append(r.Rules, rule)
		}
		u.Routines = append(u.Routines, r)
	}
	return u
}

// TestGarbageUnits does the same with the functions of the layers 19 to 21.
func TestGarbageUnits(t *testing.T) {
	g := newGenerator(52)
	n := tally{}
	for range 10000 {
		u, p, e, fuel := g.garbageUnit(t), g.garbageProgram(), g.garbage(3), g.Intn(30)-2
		if g.Intn(2) == 0 {
			p, _ = g.program(t)
		}
		if g.Intn(2) == 0 {
			e = g.expression(t)
		}
		cells := g.Intn(60) - 2
		for _, r := range u.Routines {
			for _, rule := range r.Rules {
				l, built := code.Build(rule.Build, []api.Binding{{Var: "e.2", Value: e}, {Var: g.one("s.1", "x"), Value: g.garbage(2)}})
				if built != api.OK && len(l) > 0 {
					t.Fatalf("Build of %v = %v, %v", rule.Build, l, built)
				}
				n["build "+outcome(built)]++
			}
		}
		_, of := code.Program(u)
		m, e1 := machine.Load(u, e, cells)
		if e1 != api.OK && m != nil || of != api.OK && e1 != of {
			t.Fatalf("Load of %v = %v, %v", u, m, e1)
		}
		n["load "+outcome(e1)]++
		if m != nil {
			m.Step()
			made, e2 := m.Go(fuel)
			if now, most := m.Used(); now != cellsIn(m.State().Field) || now > most || most > cells || made > max(fuel, 0) {
				t.Fatalf("behind Go of %d = %d, %v there are %d and %d cells", fuel, made, e2, now, most)
			}
			n["go "+outcome(e2)]++
		}
		s, e3 := machine.Run(p, e, fuel)
		s2, e4 := engine.Run(p, e, fuel)
		if e3 != e4 || !sameStates(s, s2) {
			t.Fatalf("Run of %v is %v, %v for the machine, and %v, %v for the engine", e, s, e3, s2, e4)
		}
		n["run "+outcome(e3)]++
		ok, e5 := engine.Both(p, e, fuel)
		x, e6 := engine.New(p)
		if ok != (e5 == api.OK) || (x == nil) != (e6 != api.OK) || e6 != api.OK && (e5 != e6 || e4 != e6) {
			t.Fatalf("Both of %v = %v, %v, but New is %v, and Run %v", e, ok, e5, e6, e4)
		}
		if x != nil {
			name := g.one("F", "G", "1", "")
			called, e7 := x.Call(name, e, fuel)
			ran, e8 := x.Run([]api.Term{{Kind: api.Call, Text: name, Kids: e}}, fuel)
			if e7 != e8 || !sameStates(called, ran) {
				t.Fatalf("Call of %q with %v = %v, %v, but Run %v, %v", name, e, called, e7, ran, e8)
			}
		}
	}
	n.need(t, 50, "load error 0", "load error 210", "load error 190", "load error 4", "load error 7", "load error 2", "go error 0", "go error 4", "go error 7",
		"build error 0", "build error 9", "build error 210")
}
