package bychance

import (
	"slices"
	"testing"

	"chiasmus/api"
	"chiasmus/apply"
	"chiasmus/field"
	"chiasmus/term"
)

// start returns the state at the beginning of a run.
func start(t *testing.T, p api.Program, e []api.Term) api.State {
	t.Helper()
	s, code := field.Start(p, e)
	if code != api.OK {
		t.Fatalf("Start = %v", code)
	}
	return s
}

// TestField has P11.1: the definition, as the chapter says it.
func TestField(t *testing.T) {
	g := newGenerator(11)
	g.meta = true
	n := tally{}
	for range 6000 {
		p, src := g.program(t)
		e, fuel := g.expression(t), g.Intn(60)
		x := simple{program: p, fuel: fuel}
		want, code := x.run(e)
		got, e2 := field.Run(p, start(t, p, e), fuel)
		if e2 != code || !sameStates(got, want) {
			t.Fatalf("%s: Run of %s with %d = %v, %v, want %v, %v", src, text(e), fuel, got, e2, want, code)
		}
		n[outcome(code)]++
		if len(got.Store.Buried)+len(got.Store.Output) > 0 {
			n["store"]++
		}
		if code == api.OK && got.Steps > 3 {
			n["long"]++
		}
	}
	n.need(t, 100, "error 0", "error 8", "error 20", "error 21", "error 22", "store", "long")
}

// TestOneByOne has P11.2, P11.3 and P11.6.
func TestOneByOne(t *testing.T) {
	g := newGenerator(12)
	g.meta = true
	n := tally{}
	for range 2000 {
		p, src := g.program(t)
		s := start(t, p, g.expression(t))
		s.Steps = g.Intn(3) * 1000
		first, fuel := s, g.Intn(40)
		made := 0
		var code api.Errno
		for made < fuel && code == api.OK {
			var next api.State
			if next, code = field.Step(p, s); code != api.OK {
				break
			}
			checkReplaced(t, p, s, next)
			if field.Check(next) != api.OK || next.Steps != s.Steps+1 {
				t.Fatalf("%s: the step behind %v is %v", src, s, next)
			}
			s = next
			made++
		}
		calls := term.Calls(s.Field)
		if (code == api.ErrClosed) != !calls && made < fuel || !calls && term.Value(s.Field) != api.OK {
			t.Fatalf("%s: the step of %v is %v", src, s, code)
		}
		switch {
		case !calls:
			code = api.OK
		case made == fuel:
			code = api.ErrFuel
		}
		n[outcome(code)]++
		if got, e := field.Run(p, first, fuel); e != code || !sameStates(got, s) {
			t.Fatalf("%s: Run of %v with %d = %v, %v, want %v, %v", src, first, fuel, got, e, s, code)
		}
		part := g.Intn(fuel + 1)
		half, e := field.Run(p, first, part)
		if e == api.ErrFuel {
			if half.Steps != first.Steps+part {
				t.Fatalf("%s: Run with %d ends at the step %d", src, part, half.Steps)
			}
			half, e = field.Run(p, half, fuel-part)
		}
		if e != code || !sameStates(half, s) {
			t.Fatalf("%s: runs of %v with %d in two parts = %v, %v", src, first, fuel, half, e)
		}
	}
	n.need(t, 50, "error 0", "error 8", "error 20", "error 21", "error 22")
}

// checkReplaced compares a step with the sentence that it uses.
func checkReplaced(t *testing.T, p api.Program, s, next api.State) {
	t.Helper()
	path, ok := field.Active(s.Field)
	if !ok || !slices.Equal(path, active(s.Field, nil)) {
		t.Fatalf("Active of %s = %v, %v", text(s.Field), path, ok)
	}
	number, l, e := field.Sentence(p, s)
	if e != api.OK {
		t.Fatalf("Sentence = %v", e)
	}
	if number < 0 {
		return
	}
	call, _ := term.At(s.Field, path)
	i := slices.IndexFunc(p.Functions, func(f api.Function) bool { return f.Name == call.Text })
	sentence := p.Functions[i].Sentences[number]
	want, _ := term.Put(s.Field, path, under(sentence.Right, l))
	if !term.Equal(under(sentence.Left, l), call.Kids) || !term.Equal(next.Field, want) {
		t.Fatalf("the step of %s is %s, not %s", text(s.Field), text(next.Field), text(want))
	}
}

// TestContexts has P11.4.
func TestContexts(t *testing.T) {
	g := newGenerator(13)
	ended := 0
	for range 3000 {
		p, src := g.program(t)
		e := g.expression(t)
		s, code := field.Run(p, start(t, p, e), 50)
		ahead, behind := parsed(t, g.value(2)), parsed(t, g.value(2))
		group := []api.Term{{Kind: api.Group, Kids: slices.Concat(ahead, e, behind)}}
		in, codeIn := field.Run(p, start(t, p, slices.Concat(ahead, group, behind)), 50)
		group[0].Kids = slices.Concat(ahead, s.Field, behind)
		if codeIn != code || in.Steps != s.Steps || !sameStores(in.Store, s.Store) || !term.Equal(in.Field, slices.Concat(ahead, group, behind)) {
			t.Fatalf("%s: in a context the run of %s is %v, %v, but %v, %v alone", src, text(e), in, codeIn, s, code)
		}
		if code != api.OK {
			continue
		}
		ended++
		e2 := g.expression(t)
		second, code2 := field.Run(p, api.State{Field: e2, Store: s.Store, Steps: s.Steps}, 50)
		both, codeBoth := field.Run(p, start(t, p, slices.Concat(e, e2)), s.Steps+50)
		second.Field = slices.Concat(s.Field, second.Field)
		if codeBoth != code2 || !sameStates(both, second) {
			t.Fatalf("%s: the run of %s and %s is %v, %v, not %v, %v", src, text(e), text(e2), both, codeBoth, second, code2)
		}
	}
	if ended < 300 {
		t.Errorf("only %d runs ended", ended)
	}
}

// TestPrograms has P11.5: functions that are not called, another order of them, and renamed variables.
func TestPrograms(t *testing.T) {
	g := newGenerator(14)
	for range 1500 {
		p, src := g.program(t)
		e := g.expression(t)
		want, code := field.Run(p, start(t, p, e), 50)
		other, _ := g.program(t)
		q := api.Program{Functions: slices.Clone(p.Functions)}
		for i, f := range other.Functions {
			f.Name = []string{"Not", "Called", "X-1"}[i]
			q.Functions = append(q.Functions, f)
		}
		g.Shuffle(len(q.Functions), func(i, j int) { q.Functions[i], q.Functions[j] = q.Functions[j], q.Functions[i] })
		for i, f := range q.Functions {
			q.Functions[i].Sentences = renamed(t, f.Sentences)
		}
		if got, e2 := field.Run(q, start(t, q, e), 50); e2 != code || !sameStates(got, want) {
			t.Fatalf("%s: with other functions the run of %s is %v, %v, not %v, %v", src, text(e), got, e2, want, code)
		}
	}
}

// renamed returns plain sentences with other variables.
func renamed(t *testing.T, l []api.Sentence) []api.Sentence {
	t.Helper()
	l = slices.Clone(l)
	for i, s := range l {
		both := []api.Term{{Kind: api.Group, Kids: s.Left}, {Kind: api.Group, Kids: s.Right}}
		both, _, e := apply.Fresh(both, 500)
		if e != api.OK {
			t.Fatalf("Fresh = %v", e)
		}
		l[i] = api.Sentence{Left: both[0].Kids, Right: both[1].Kids}
	}
	return l
}
