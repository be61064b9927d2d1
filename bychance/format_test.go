package bychance

import (
	"testing"

	"chiasmus/api"
	"chiasmus/check"
	"chiasmus/field"
	"chiasmus/format"
	"chiasmus/term"
)

// hasFormat reports whether a format has a value.
func hasFormat(t *testing.T, f, value []api.Term) bool {
	t.Helper()
	ok, e := format.Has(f, value)
	if e != api.OK {
		t.Fatalf("Has = %v", e)
	}
	return ok
}

// inferred returns the formats of a program, which must be right but for its calls.
func inferred(t *testing.T, p api.Program, src string) ([]format.Format, bool) {
	t.Helper()
	l, e := format.Infer(p)
	if e != api.OK {
		t.Fatalf("%s: Infer = %v", src, e)
	}
	_, _, e = format.Verify(p, l)
	if e != api.OK && e != format.ErrCall {
		t.Fatalf("%s: Verify of what Infer returns = %v", src, e)
	}
	return l, e == api.OK
}

// TestInferredFormats has P22.4.
func TestInferredFormats(t *testing.T) {
	g := newGenerator(224)
	ended, closed := 0, 0
	for range 4000 {
		p, src := g.program(t)
		l, _ := inferred(t, p, src)
		for range 3 {
			i := g.Intn(len(p.Functions))
			arg := parsed(t, g.value(2))
			result, _, e := field.Value(p, []api.Term{{Kind: api.Call, Text: p.Functions[i].Name, Kids: arg}}, 60)
			if e != api.OK {
				continue
			}
			ended++
			if !l[i].Takes || !l[i].Returns || !hasFormat(t, l[i].Arg, arg) || !hasFormat(t, l[i].Result, result) {
				t.Fatalf("%s: <%s %s> is %s, but its formats are %s and %s", src, p.Functions[i].Name, text(arg), text(result), text(l[i].Arg), text(l[i].Result))
			}
			if text(l[i].Result) != "e.1" {
				closed++
			}
		}
	}
	if ended < 3000 || closed < 1000 {
		t.Errorf("only %d calls ended, %d with another format than any", ended, closed)
	}
}

// TestVerifiedFormats has P22.5.
func TestVerifiedFormats(t *testing.T) {
	g := newGenerator(225)
	g.pure = true
	n := tally{}
	for range 6000 {
		p, src := g.program(t)
		l, right := inferred(t, p, src)
		for i := range l {
			if !right && g.Intn(2) == 0 { // more arguments: perhaps all calls have them
				l[i].Arg = parsed(t, "e.1")
			}
		}
		if _, _, e := format.Verify(p, l); e != api.OK {
			n[outcome(e)]++
			continue
		}
		s := start(t, p, []api.Term{{Kind: api.Call, Text: "F", Kids: parsed(t, g.value(2))}})
		if !hasFormat(t, l[0].Arg, s.Field[0].Kids) {
			n["another argument"]++
			continue
		}
		for range 40 {
			path, ok := field.Active(s.Field)
			if !ok {
				break
			}
			call, _ := term.At(s.Field, path)
			if term.Value(call.Kids) != api.OK { // it is too large
				break
			}
			if f := l[check.Find(p, call.Text)]; !f.Takes || !hasFormat(t, f.Arg, call.Kids) {
				t.Fatalf("%s: Verify is OK, but a call has the argument %s, not %s", src, text(call.Kids), text(f.Arg))
			} else if text(f.Arg) != "e.1" {
				n["checked"]++
			}
			next, e := field.Step(p, s)
			if e != api.OK {
				break
			}
			s = next
		}
	}
	n.need(t, 300, "checked", "another argument", "error 242")
}
