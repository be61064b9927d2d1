package field_test

import (
	"slices"
	"strings"
	"testing"

	"chiasmus/api"
	"chiasmus/check"
	"chiasmus/field"
	"chiasmus/syntax"
	"chiasmus/term"
)

var long = strings.Repeat

func parsed(t testing.TB, s string) []api.Term {
	t.Helper()
	l, at, e := term.Parse(s)
	if e != api.OK {
		t.Fatalf("Parse(%q) = %d, %v", s, at, e)
	}
	return l
}

func program(t testing.TB, s string) api.Program {
	t.Helper()
	p, at, e := syntax.Program(s)
	if e != api.OK {
		t.Fatalf("Program(%q) = %d, %v", s, at, e)
	}
	return p
}

// text returns the text of an expression; of one that is too large the number of its terms.
func text(l []api.Term) string {
	s, e := term.Text(l)
	if e == api.ErrCount {
		return "large"
	}
	if e != api.OK {
		return "error " + e.Error()
	}
	return s
}

// state returns one with the text of a field.
func state(t testing.TB, s string) api.State { return api.State{Field: parsed(t, s)} }

func isZero(s api.State) bool {
	return len(s.Field) == 0 && len(s.Store.Buried) == 0 && len(s.Store.Output) == 0 && s.Steps == 0
}

func chars(n int) []api.Term { return slices.Repeat(term.Chars("a"), n) }

func call(name string, l ...api.Term) api.Term {
	return api.Term{Kind: api.Call, Text: name, Kids: l}
}

// nested returns groups within each other, and an expression in the innermost one.
func nested(depth int, l ...api.Term) []api.Term {
	for range depth {
		l = []api.Term{{Kind: api.Group, Kids: l}}
	}
	return l
}

const example = "F { 'a' e.1 = 'b' <F e.1>; = ; }"

// Programs and an expression with errors.
var (
	faulty   = api.Program{Functions: []api.Function{{Name: "1"}}}
	unbound  = api.Program{Functions: []api.Function{{Name: "F", Sentences: []api.Sentence{{Right: []api.Term{{Kind: api.EVar, Text: "1"}}}}}}}
	wrong    = []api.Term{{Kind: api.Number, Text: "01"}}
	notRight = api.State{Field: wrong}
)

func notCore(t testing.TB) api.Program { return program(t, "F { e.1, e.1 : = ; }") }

func TestCode(t *testing.T) {
	if field.ErrState != 130 {
		t.Errorf("ErrState is %d", int(field.ErrState))
	}
}

func TestActive(t *testing.T) {
	odd := []api.Term{
		{Kind: api.Char, Text: "a", Kids: []api.Term{{Kind: 77, Kids: []api.Term{call("F"), call("G")}}}},
		call("H"),
	}
	for _, c := range []struct {
		name string
		e    []api.Term
		want []int
	}{
		{"nothing", nil, nil},
		{"no call", parsed(t, "a (b (c)) s.1 e.2"), nil},
		{"a call", parsed(t, "<F>"), []int{0}},
		{"the example", parsed(t, "(<F <G >>) <H >"), []int{0, 0, 0}},
		{"a call behind terms", parsed(t, "a (b) <F (c)> <G>"), []int{2}},
		{"the inner one of the second call", parsed(t, "a <F (b <G> <H>)> <I>"), []int{1, 0, 1}},
		{"a call with variables", parsed(t, "(e.1 <F e.1 (s.2)>)"), []int{0, 1}},
		{"a call behind a group", parsed(t, "((a) (b)) (c (<F>)) <G>"), []int{1, 1, 0}},
		{"an outer call with inner ones behind", parsed(t, "<F a (<G>)>"), []int{0, 1, 0}},
		{"calls in what is no bracket", odd, []int{0, 0, 0}},
		{"a call without a right name", []api.Term{{Kind: 0}, call("")}, []int{1}},
	} {
		got, ok := field.Active(c.e)
		if !slices.Equal(got, c.want) || ok != (c.want != nil) {
			t.Errorf("%s: Active = %v, %v, want %v", c.name, got, ok, c.want)
		}
	}
	got, ok := field.Active(nested(60000, call("F")))
	if len(got) != 60001 || !ok || slices.Max(got) != 0 {
		t.Errorf("a deep call: %d, %v", len(got), ok)
	}
}

func TestStart(t *testing.T) {
	p := program(t, example)
	e := parsed(t, "a (<F 'a'> <Nothing>)")
	s, code := field.Start(p, e)
	if code != api.OK || !term.Equal(s.Field, e) || len(s.Store.Buried)+len(s.Store.Output) != 0 || s.Steps != 0 {
		t.Errorf("Start = %v, %v", s, code)
	}
	s.Field[1].Kids[0].Text = "changed"
	if text(e) != "a (<F 'a'> <Nothing>)" {
		t.Error("the expression has changed")
	}
	for _, c := range []struct {
		name string
		p    api.Program
		e    []api.Term
		want api.Errno
	}{
		{"a wrong program", faulty, wrong, check.ErrName},
		{"an unbound variable", unbound, wrong, check.ErrUnbound},
		{"a program with a condition", notCore(t), wrong, api.ErrCore},
		{"a program with a block", program(t, "F { e.1, e.1 : { = ; }; }"), nil, api.ErrCore},
		{"a wrong term", p, wrong, api.ErrForm},
		{"a variable", p, parsed(t, "a (s.1)"), api.ErrForm},
		{"too many terms", p, append(chars(4000), wrong...), api.ErrCount},
		{"too deep", p, nested(101, wrong...), api.ErrDepth},
		{"a variable too deep", p, nested(101, parsed(t, "e.1")...), api.ErrDepth},
		{"no function", api.Program{}, nil, api.OK},
		{"as many terms as may be", p, chars(4000), api.OK},
		{"as deep as may be", p, nested(100), api.OK},
	} {
		s, code := field.Start(c.p, c.e)
		if code != c.want || code != api.OK && !isZero(s) {
			t.Errorf("%s: Start = %v, %v, want %v", c.name, s, code, c.want)
		}
	}
}

func TestCheck(t *testing.T) {
	buried := func(n int) []api.Buried { return make([]api.Buried, n) }
	for _, c := range []struct {
		name string
		s    api.State
		want api.Errno
	}{
		{"nothing", api.State{}, api.OK},
		{"calls", state(t, "a 1 'c' (<F (<G>)>) <Nothing>"), api.OK},
		{"as many terms as may be", api.State{Field: chars(20000)}, api.OK},
		{"too many terms", api.State{Field: chars(20001)}, field.ErrState},
		{"as many as may be at all depths", api.State{Field: nested(1, chars(19999)...)}, api.OK},
		{"too many at all depths", api.State{Field: nested(1, chars(20000)...)}, field.ErrState},
		{"as deep as may be", api.State{Field: nested(99, call("F", chars(1)...))}, api.OK},
		{"too deep by a group", api.State{Field: nested(101)}, field.ErrState},
		{"too deep by a call", api.State{Field: nested(100, call("F"))}, field.ErrState},
		{"much too deep", api.State{Field: nested(60000)}, field.ErrState},
		{"an s-variable", state(t, "(s.1)"), field.ErrState},
		{"a t-variable", state(t, "<F t.1>"), field.ErrState},
		{"an e-variable", state(t, "e.1"), field.ErrState},
		{"a wrong number", notRight, field.ErrState},
		{"a wrong number behind others", api.State{Field: append(chars(4500), nested(2, wrong...)...)}, field.ErrState},
		{"a wrong name of a call", api.State{Field: []api.Term{call("1")}}, field.ErrState},
		{"a group with a text", api.State{Field: []api.Term{{Kind: api.Group, Text: "x"}}}, field.ErrState},
		{"a symbol with terms", api.State{Field: []api.Term{{Kind: api.Char, Text: "x", Kids: chars(1)}}}, field.ErrState},
		{"a kind that there is not", api.State{Field: []api.Term{{Kind: 9}}}, field.ErrState},
		{"a kind below", api.State{Field: []api.Term{{Kind: -1}}}, field.ErrState},
		{"a full store", api.State{Store: api.Store{Buried: buried(200), Output: make([]string, 200)}}, api.OK},
		{"a store with too many expressions", api.State{Store: api.Store{Buried: buried(201)}}, field.ErrState},
		{"a store with too many lines", api.State{Store: api.Store{Output: make([]string, 201)}}, field.ErrState},
		{"a wrong key", api.State{Store: api.Store{Buried: []api.Buried{{Key: wrong}}}}, field.ErrState},
		{"a value with a call", api.State{Store: api.Store{Buried: []api.Buried{{Value: parsed(t, "<F>")}}}}, field.ErrState},
		{"many steps", api.State{Steps: 1000000000}, api.OK},
		{"too many steps", api.State{Steps: 1000000001}, field.ErrState},
		{"steps below 0", api.State{Steps: -1}, field.ErrState},
	} {
		if code := field.Check(c.s); code != c.want {
			t.Errorf("%s: Check = %v, want %v", c.name, code, c.want)
		}
	}
}

// TestRunWith has functions that are no sentences.
func TestRunWith(t *testing.T) {
	asked := 0
	own := map[string]field.Function{
		"F": func(arg []api.Term) ([]api.Term, api.Errno) {
			asked++
			if len(arg) == 0 {
				return nil, api.ErrRecognition
			}
			return arg[1:], api.OK
		},
		"Add":   func([]api.Term) ([]api.Term, api.Errno) { return term.Chars("own"), api.OK },
		"Large": func([]api.Term) ([]api.Term, api.Errno) { return chars(20001), api.OK },
		"None":  nil,
	}
	for _, c := range []struct {
		s     api.State
		fuel  int
		want  string
		asked int
		e     api.Errno
	}{
		{state(t, "<F <F 'abc'>> <Add> <Sub 2 1>"), 9, "'cown' 1", 2, 0},
		{state(t, "<F <F 'abc'>>"), 1, "<F 'bc'>", 1, api.ErrFuel},
		{state(t, "<F <F 'a'>>"), 9, "<F>", 2, api.ErrRecognition},
		{state(t, "<Large>"), 9, "<Large>", 0, api.ErrLarge},
		{state(t, "<None>"), 9, "<None>", 0, api.ErrUndefined},
		{api.State{Field: []api.Term{call("F", chars(4001)...)}}, 9, "large", 0, api.ErrLarge},
		{notRight, -1, "", 0, field.ErrState},
		{state(t, "<F>"), -1, "", 0, api.ErrRange},
		{state(t, "<F>"), 100001, "", 0, api.ErrRange},
	} {
		asked = 0
		if s, e := field.RunWith(own, c.s, c.fuel); e != c.e || text(s.Field) != c.want || asked != c.asked {
			t.Errorf("RunWith of %s with %d = %s, %v, want %s, %v", text(c.s.Field), c.fuel, text(s.Field), e, c.want, c.e)
		}
	}
	if s, e := field.RunWith(nil, state(t, "<F>"), 1); e != api.ErrUndefined || text(s.Field) != "<F>" {
		t.Errorf("RunWith = %v, %v", s, e)
	}
}
