package bychance

import (
	"slices"
	"strings"
	"testing"

	"chiasmus/api"
	"chiasmus/check"
	"chiasmus/desugar"
	"chiasmus/extend"
	"chiasmus/field"
	"chiasmus/syntax"
	"chiasmus/term"
)

func sameFunctions(a, b []api.Function) bool {
	return syntax.Equal(syntax.Module{Functions: a}, syntax.Module{Functions: b})
}

// desugared returns a program by chance that can be desugared, and what it becomes.
func desugared(t *testing.T, g *generator) (api.Program, api.Program, string) {
	t.Helper()
	p, src := g.program(t)
	q, e := desugar.Program(p)
	if e != api.OK {
		t.Fatalf("%s: Program = %v", src, e)
	}
	return p, q, src
}

// TestDesugared has P13.2 and P13.4.
func TestDesugared(t *testing.T) {
	g := newGenerator(31)
	g.tests, g.strict = true, true
	made := 0
	for range 1000 {
		p, q, src := desugared(t, g)
		if _, e := check.Program(q); e != api.OK || !check.Core(q) {
			t.Fatalf("%s: the result has the error %v, or is not core", src, e)
		}
		if again, e := desugar.Program(q); e != api.OK || !sameFunctions(again.Functions, q.Functions) {
			t.Fatalf("%s: desugared again it is another one, %v", src, e)
		}
		var parts []api.Function
		for i, f := range p.Functions {
			part, e := desugar.Function(p, i)
			if e != api.OK || !desugar.Needed(f) && !sameFunctions(part, []api.Function{f}) {
				t.Fatalf("%s: Function %d = %v", src, i, e)
			}
			for _, x := range part {
				origin, e := desugar.Origin(p, x.Name)
				if e != api.OK || origin != f.Name || x.Name != origin && !strings.HasPrefix(x.Name, origin+"-") {
					t.Fatalf("%s: Origin of %s = %s, %v", src, x.Name, origin, e)
				}
			}
			parts = append(parts, part...)
		}
		if !sameFunctions(parts, q.Functions) {
			t.Fatalf("%s: the parts are not the result", src)
		}
		made += len(q.Functions) - len(p.Functions)
	}
	if made < 1000 {
		t.Errorf("only %d functions were made", made)
	}
}

// TestSameValues has P13.3.
func TestSameValues(t *testing.T) {
	g := newGenerator(32)
	g.tests, g.strict = true, true
	n := tally{}
	for range 6000 {
		p, q, src := desugared(t, g)
		e := g.expression(t)
		want, code := extend.Run(p, e, 100)
		n[outcome(code)]++
		if code == api.ErrFuel {
			continue
		}
		got, code2 := field.Run(q, start(t, q, e), 2000)
		switch code {
		case api.OK:
			if code2 == api.ErrLarge || code2 == api.ErrFuel {
				n["limit"]++
				break
			}
			if code2 != api.OK || !term.Equal(got.Field, want.Field) || !sameStores(got.Store, want.Store) || got.Steps < want.Steps {
				t.Fatalf("%s: the run of %s ends with %v, %v, that of the core program with %v, %v", src, text(e), want, code, got, code2)
			}
			if got.Steps > want.Steps {
				n["more steps"]++
			}
		case api.ErrRecognition, api.ErrUndefined, api.ErrBuiltin:
			if code2 != code && code2 != api.ErrLarge && code2 != api.ErrFuel {
				t.Fatalf("%s: the run of %s ends with %v, that of the core program with %v", src, text(e), code, code2)
			}
			if !sameStores(got.Store, want.Store) && code2 == code {
				t.Fatalf("%s: the run of %s ends with the store %v, that of the core program with %v", src, text(e), want.Store, got.Store)
			}
		}
	}
	n.need(t, 100, "error 0", "error 20", "error 21", "error 22", "more steps")
	if n["limit"] > 10 {
		t.Errorf("%d runs met a limit", n["limit"])
	}
}

// TestChoicesOfPatterns has programs whose patterns may leave choices: whether they can be desugared is what check says of the patterns
// ahead of conditions and blocks.
func TestChoicesOfPatterns(t *testing.T) {
	g := newGenerator(33)
	g.tests = true
	n := tally{}
	for range 3000 {
		p, src := g.program(t)
		// plain sentences are left out, at all depths
		q := api.Program{}
		for _, f := range p.Functions {
			f.Sentences = splitOnly(f.Sentences)
			q.Functions = append(q.Functions, f)
		}
		want := api.OK
		if !check.Strict(q) {
			want = api.ErrStrict
		}
		if _, e := desugar.Program(p); e != want {
			t.Fatalf("%s: Program = %v, want %v", src, e, want)
		}
		n[outcome(want)]++
	}
	n.need(t, 300, "error 0", "error 24")
}

func splitOnly(l []api.Sentence) []api.Sentence {
	l = slices.DeleteFunc(slices.Clone(l), func(s api.Sentence) bool { return len(s.Tests) == 0 && len(s.Block) == 0 })
	for i, s := range l {
		l[i].Block = splitOnly(s.Block)
	}
	return l
}
