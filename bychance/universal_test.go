package bychance

import (
	"testing"

	"chiasmus/api"
	"chiasmus/field"
	"chiasmus/term"
	"chiasmus/universal"
)

// TestUniversal has P25.2 and P25.3.
func TestUniversal(t *testing.T) {
	g := newGenerator(252)
	g.pure, g.strict = true, true
	n := tally{}
	for range 800 {
		p, src := g.program(t)
		arg := parsed(t, g.value(2))
		if g.Intn(3) == 0 {
			arg = append(arg, term.Chars("*")...)
		}
		call := []api.Term{{Kind: api.Call, Text: "F", Kids: arg}}
		value, steps, code := field.Value(p, call, 30)
		s, count, e := universal.Run(p, "F", arg, 1500)
		n[outcome(code)+", "+outcome(e)]++
		if code == api.OK && e == api.OK && (!term.Equal(s.Field, value) || count != steps) {
			t.Fatalf("%s: <F %s> is %s behind %d steps, but the universal program ends with %s, and counts %d", src, text(arg), text(value), steps, text(s.Field), count)
		}
		if code == api.ErrRecognition && e == api.OK {
			t.Fatalf("%s: <F %s> has no value, but the universal program ends with %s", src, text(arg), text(s.Field))
		}
		levels, e2 := universal.Steps(p, "F", arg, 1, 1500)
		if (e2 == api.OK) != (code == api.OK && e == api.OK) && code != api.ErrFuel {
			t.Fatalf("%s: Steps = %v, %v, but the runs end with %v and %v", src, levels, e2, code, e)
		}
		if code == api.OK && e == api.OK && (levels[0] != steps || levels[1] != s.Steps || levels[1] <= levels[0]) {
			t.Fatalf("%s: Steps = %v, want %d, %d", src, levels, steps, s.Steps)
		}
	}
	n.need(t, 100, "error 0, error 0", "error 20, error 20")
	if n["error 0, error 8"]+n["error 0, error 7"] > 50 {
		t.Errorf("the runs ended so: %v", n)
	}
}
