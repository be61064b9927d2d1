package bychance

import (
	"testing"

	"chiasmus/api"
	"chiasmus/code"
	"chiasmus/field"
	"chiasmus/machine"
	"chiasmus/store"
	"chiasmus/term"
)

// cellsIn counts the cells of an expression as chapter 16 says.
func cellsIn(l []api.Term) int {
	n := 0
	for _, t := range l {
		n++
		if t.Kind == api.Group || t.Kind == api.Call {
			n += 1 + cellsIn(t.Kids)
		}
	}
	return n
}

func loaded(t *testing.T, p api.Program, e []api.Term, cells int) *machine.Machine {
	t.Helper()
	u, code := code.Compile(p)
	if code != api.OK {
		t.Fatalf("Compile = %v", code)
	}
	m, code := machine.Load(u, e, cells)
	if code != api.OK {
		t.Fatalf("Load = %v", code)
	}
	return m
}

// TestMachine has P20.2: runs of the machine are those of the definition.
func TestMachine(t *testing.T) {
	g := newGenerator(21)
	g.meta = true
	n := tally{}
	for range 5000 {
		p, src := g.program(t)
		e, fuel := g.expression(t), g.Intn(60)
		want, code := field.Run(p, start(t, p, e), fuel)
		got, e2 := machine.Run(p, e, fuel)
		if e2 != code || !sameStates(got, want) {
			t.Fatalf("%s: Run of %s with %d = %v, %v, want %v, %v", src, text(e), fuel, got, e2, want, code)
		}
		n[outcome(code)]++
		if len(got.Store.Buried)+len(got.Store.Output) > 0 {
			n["store"]++
		}
		if code == api.OK && got.Steps > 3 {
			n["long"]++
		}
	}
	n.need(t, 100, "error 0", "error 8", "error 20", "error 21", "error 22", "store", "long")
}

// TestMachineSteps has P20.2 to P20.4 step by step: the states and the cells of machines with enough cells, and with fewer of them.
func TestMachineSteps(t *testing.T) {
	g := newGenerator(22)
	g.meta = true
	n := tally{}
	for range 2000 {
		p, src := g.program(t)
		e := g.expression(t)
		s := start(t, p, e)
		cells := cellsIn(e)
		limit := cells + g.Intn(40)
		m, small := loaded(t, p, e, store.MaxCells), loaded(t, p, e, limit)
		most, full := cells, false
		for step := 0; ; step++ {
			now, top := m.Used()
			if now != cells || top != most || !sameStates(m.State(), s) {
				t.Fatalf("%s: behind %d steps of %s the machine has %d and %d cells, and %v, want %d, %d and %v", src, step, text(e), now, top, m.State(), cells, most, s)
			}
			if step == 40 {
				break
			}
			next, code := field.Step(p, s)
			if e := m.Step(); e != code {
				t.Fatalf("%s: a step of %v = %v, want %v", src, s, e, code)
			}
			if e := small.Step(); !full && e != code && (e != api.ErrLarge || cellsIn(next.Field) <= limit) {
				t.Fatalf("%s: with %d cells a step of %v = %v, want %v", src, limit, s, e, code)
			} else if !full && e != code {
				full = true
				n["full"]++
			}
			if full || code != api.OK {
				if now, top := small.Used(); now > limit || top > limit || !full && !sameStates(small.State(), s) {
					t.Fatalf("%s: with %d cells there are %d and %d", src, limit, now, top)
				}
			}
			if code != api.OK {
				n[outcome(code)]++
				if !sameStates(m.State(), s) {
					t.Fatalf("%s: a step that failed has changed %v to %v", src, s, m.State())
				}
				break
			}
			s = next
			cells = cellsIn(s.Field)
			most = max(most, cells)
		}
	}
	n.need(t, 50, "full", "error 11", "error 20", "error 21", "error 22")
}

// TestMachineGo has P20.3, and the numbers that wait.
func TestMachineGo(t *testing.T) {
	g := newGenerator(23)
	for range 2000 {
		p, src := g.program(t)
		e, first, second := g.expression(t), g.Intn(30), g.Intn(60)
		whole, parts := loaded(t, p, e, store.MaxCells), loaded(t, p, e, store.MaxCells)
		made, code := whole.Go(first + second)
		a, e1 := parts.Go(first)
		b, e2 := 0, e1
		if e1 == api.ErrFuel {
			b, e2 = parts.Go(second)
		}
		if a+b != made || e2 != code || !sameStates(parts.State(), whole.State()) || e1 == api.ErrFuel && a != first {
			t.Fatalf("%s: Go of %d and %d = %d, %v and %d, %v, and at once %d, %v", src, first, second, a, e1, b, e2, made, code)
		}
		steps := whole.Watch()
		if len(steps) != min(made, 64) || len(whole.Watch()) != 0 {
			t.Fatalf("%s: behind %d steps %v wait", src, made, steps)
		}
		for i, n := range steps {
			if n != i+1 {
				t.Fatalf("%s: behind %d steps %v wait", src, made, steps)
			}
		}
		state, e3 := field.Run(p, start(t, p, e), first+second)
		if e3 != code || !sameStates(whole.State(), state) || term.Calls(state.Field) == (code == api.OK) {
			t.Fatalf("%s: Go of %d = %d, %v", src, first+second, made, code)
		}
	}
}
