package engine

import (
	"slices"
	"strings"
	"testing"

	"chiasmus/api"
	"chiasmus/check"
	"chiasmus/field"
	"chiasmus/syntax"
	"chiasmus/term"
)

var long = strings.Repeat

func parsed(t testing.TB, s string) []api.Term {
	t.Helper()
	l, at, e := term.Parse(s)
	if e != api.OK {
		t.Fatalf("Parse(%q) = %d, %v", s, at, e)
	}
	return l
}

func program(t testing.TB, s string) api.Program {
	t.Helper()
	p, at, e := syntax.Program(s)
	if e != api.OK {
		t.Fatalf("Program(%q) = %d, %v", s, at, e)
	}
	return p
}

func newEngine(t testing.TB, s string) *Engine {
	t.Helper()
	x, e := New(program(t, s))
	if e != api.OK {
		t.Fatalf("New(%q) = %v", s, e)
	}
	return x
}

func text(l []api.Term) string {
	s, e := term.Text(l)
	if e != api.OK {
		return "error " + e.Error()
	}
	return s
}

func isZero(s api.State) bool { return same(ending{s, 0}, ending{}) }

func chars(n int) []api.Term { return slices.Repeat(term.Chars("a"), n) }

func call(name string, l ...api.Term) api.Term {
	return api.Term{Kind: api.Call, Text: name, Kids: l}
}

const example = "F { 'a' e.1 = 'b' <F e.1>; = ; }"

// asks checks what was asked so far.
func asks(t *testing.T, x *Engine, questions, tries int) {
	t.Helper()
	if q, n := x.Asked(); q != questions || n != tries {
		t.Errorf("Asked = %d, %d, want %d, %d", q, n, questions, tries)
	}
}

func TestExample(t *testing.T) {
	x := newEngine(t, example)
	asks(t, x, 0, 0)
	s, e := x.Run(parsed(t, "<F 'aa'>"), 9)
	if e != api.OK || text(s.Field) != "'bb'" || s.Steps != 3 {
		t.Errorf("Run = %v, %v", s, e)
	}
	asks(t, x, 3, 3)
	s, e = x.Call("F", parsed(t, "'c'"), 9)
	if e != api.ErrRecognition || text(s.Field) != "<F 'c'>" || s.Steps != 0 {
		t.Errorf("Call = %v, %v", s, e)
	}
	asks(t, x, 4, 3)
}

func TestNil(t *testing.T) {
	var x *Engine
	if s, e := x.Run(nil, 1); e != api.ErrArgument || !isZero(s) {
		t.Errorf("Run = %v, %v", s, e)
	}
	if s, e := x.Call("1", nil, -1); e != api.ErrArgument || !isZero(s) {
		t.Errorf("Call = %v, %v", s, e)
	}
	asks(t, x, 0, 0)
}

// TestErrors has errors of programs, expressions and fuel, in their order.
func TestErrors(t *testing.T) {
	wrong := []api.Term{{Kind: api.Number, Text: "01"}}
	deep := []api.Term{call("F")}
	for range 100 {
		deep = []api.Term{{Kind: api.Group, Kids: deep}}
	}
	right := program(t, example)
	for _, c := range []struct {
		name string
		p    api.Program
		e    []api.Term
		fuel int
		want api.Errno
	}{
		{"a wrong program", api.Program{Functions: []api.Function{{Name: "1"}}}, wrong, -1, check.ErrName},
		{"a function without sentences", api.Program{Functions: []api.Function{{Name: "F"}}}, wrong, -1, api.ErrCount},
		{"a program with a condition", program(t, "F { e.1, e.1 : = ; }"), wrong, -1, api.ErrCore},
		{"a program with a block", program(t, "F { e.1, e.1 : { = ; }; }"), wrong, -1, api.ErrCore},
		{"a wrong term", right, wrong, -1, api.ErrForm},
		{"a variable", right, parsed(t, "(s.1)"), -1, api.ErrForm},
		{"too many terms", right, chars(4001), -1, api.ErrCount},
		{"too deep", right, deep, -1, api.ErrDepth},
		{"fuel below 0", right, parsed(t, "<F>"), -1, api.ErrRange},
		{"too much fuel", right, nil, 100001, api.ErrRange},
	} {
		if s, e := Run(c.p, c.e, c.fuel); e != c.want || !isZero(s) {
			t.Errorf("%s: Run = %v, %v, want %v", c.name, s, e, c.want)
		}
		if ok, e := Both(c.p, c.e, c.fuel); e != c.want || ok {
			t.Errorf("%s: Both = %v, %v, want %v", c.name, ok, e, c.want)
		}
		x, e := New(c.p)
		if (e == api.OK) != (x != nil) || e != api.OK && e != c.want {
			t.Errorf("%s: New = %v, %v", c.name, x, e)
		}
		if x == nil {
			continue
		}
		if s, e := x.Run(c.e, c.fuel); e != c.want || !isZero(s) {
			t.Errorf("%s: Run = %v, %v, want %v", c.name, s, e, c.want)
		}
		asks(t, x, 0, 0)
	}
	x := newEngine(t, example)
	for _, c := range []struct {
		name string
		arg  []api.Term
		fuel int
		want api.Errno
	}{
		{"1", nil, -1, api.ErrForm},
		{"", nil, 1, api.ErrForm},
		{"F", wrong, -1, api.ErrForm},
		{"F", parsed(t, "e.1"), -1, api.ErrForm},
		{"F", chars(4000), -1, api.ErrCount},
		{"F", nil, -1, api.ErrRange},
		{"F", nil, 100001, api.ErrRange},
	} {
		if s, e := x.Call(c.name, c.arg, c.fuel); e != c.want || !isZero(s) {
			t.Errorf("Call of %q = %v, %v, want %v", c.name, s, e, c.want)
		}
	}
	asks(t, x, 0, 0)
}

const many = `
F { 'a' e.1 = 'b' <F e.1>; = ; }
Two { 'a' 'b' e.1 = 1; 'a' 'c' e.1 = 2; 'a' e.1 'z' = 3; (e.1) e.2 = 4; s.1 = 5; t.1 t.2 = 6; e.1 'x' e.2 = 7; }
Any { e.1 = e.1 e.1; }
Last { e.1 'a' = 1; e.1 'b' = 2; e.1 (e.2) = 3; = 4; }
Never { 'a' e.1 'b' e.2 'c' = 1; 'a' e.1 = 2; }
Add { e.1 = own e.1; }
Loop { = <Loop>; }
Say { e.1 = <Prout e.1> <Br 'k=' e.1> <Cp 'k'>; }
`

// TestRun compares runs with those of the definition; what was asked was counted by hand.
func TestRun(t *testing.T) {
	for _, c := range []struct {
		field            string
		fuel             int
		want             string
		steps            int
		e                api.Errno
		questions, tries int
	}{
		{"<F 'aa'>", 3, "'bb'", 3, 0, 3, 3},
		{"<F 'aa'>", 2, "'bb' <F>", 2, api.ErrFuel, 2, 2},
		{"<F 'aa'>", 0, "<F 'aa'>", 0, api.ErrFuel, 0, 0},
		{"(a) b", 0, "(a) b", 0, 0, 0, 0},
		{"", 0, "", 0, 0, 0, 0},
		{"<F 'aac'>", 9, "'bb' <F 'c'>", 2, api.ErrRecognition, 3, 2},
		{"<F (a)>", 9, "<F (a)>", 0, api.ErrRecognition, 1, 0},
		{"<Add 1 2>", 9, "own 1 2", 1, 0, 0, 1},
		{"<Sub 1 2> <Nothing>", 9, "-1 <Nothing>", 1, api.ErrUndefined, 0, 0},
		{"<Sub 1> <F>", 9, "<Sub 1> <F>", 0, api.ErrBuiltin, 0, 0},
		{"<Any <Any 'ab'>>", 9, "'abababab'", 2, 0, 0, 2},
		{"<Last 'xa'>", 9, "1", 1, 0, 1, 1},
		{"<Last 'xb'>", 9, "2", 1, 0, 1, 1},
		{"<Last 'x' (c)>", 9, "3", 1, 0, 1, 1},
		{"<Last>", 9, "4", 1, 0, 1, 1},
		{"<Last c>", 9, "<Last c>", 0, api.ErrRecognition, 1, 0},
		{"<Never 'axxc'>", 9, "2", 1, 0, 2, 2},
		{"<Never 'axxd'>", 9, "2", 1, 0, 2, 1},
		{"<Say (x)>", 9, "(x)", 4, 0, 0, 1},
		{"<Loop>", 100000, "<Loop>", 100000, api.ErrFuel, 0, 100000},
	} {
		x := newEngine(t, many)
		e := parsed(t, c.field)
		s, code := x.Run(e, c.fuel)
		if code != c.e || text(s.Field) != c.want || s.Steps != c.steps {
			t.Errorf("Run of %s = %v, %v", c.field, s, code)
		}
		asks(t, x, c.questions, c.tries)
		begin, _ := field.Start(program(t, many), e)
		if want, code2 := field.Run(program(t, many), begin, c.fuel); !same(ending{s, code}, ending{want, code2}) {
			t.Errorf("Run of %s = %v, %v, want %v, %v", c.field, s, code, want, code2)
		}
		if again, code2 := Run(program(t, many), e, c.fuel); !same(ending{s, code}, ending{again, code2}) {
			t.Errorf("Run of %s = %v, %v, want %v, %v", c.field, again, code2, s, code)
		}
		if ok, code := Both(program(t, many), e, c.fuel); !ok || code != api.OK {
			t.Errorf("Both of %s = %v, %v", c.field, ok, code)
		}
	}
}

// TestChoices has arguments of a function with all kinds of answers, and what is asked and tried for them.
func TestChoices(t *testing.T) {
	x := newEngine(t, many)
	p := program(t, many)
	for _, arg := range []string{"", "'a'", "'ab'", "'ac'", "'ad'", "'abz'", "'adz'", "()", "(a) b", "'b'", "'bc'", "'bcd'", "'bx'", "'bxc'", "(a)", "'a' (b)", "'a' () 'z'", "B 1", "B 1 2"} {
		want, code := field.Start(p, []api.Term{call("Two", parsed(t, arg)...)})
		want, code = field.Run(p, want, 1)
		_, before := x.Asked()
		got, e := x.Call("Two", parsed(t, arg), 1)
		if !same(ending{got, e}, ending{want, code}) {
			t.Errorf("Call with %s = %v, %v, want %v, %v", arg, got, e, want, code)
		}
		if _, tries := x.Asked(); tries-before > 7 || e == api.OK && tries == before {
			t.Errorf("for %s %d sentences were tried", arg, tries-before)
		}
	}
}

// TestLarge has arguments that are too large, and results that are.
func TestLarge(t *testing.T) {
	const p = "F { s.1 e.1 = <G s.1 e.1 e.1>; } G { 'b' e.1 = ; 'a' e.1 = <H e.1 e.1>; } H { s.1 e.1 = <H s.1 e.1 e.1>; e.1 = never; }"
	for _, c := range []struct {
		field            []api.Term
		steps            int
		e                api.Errno
		questions, tries int
	}{
		{[]api.Term{call("F", chars(2001)...)}, 1, api.ErrLarge, 1, 1},
		{[]api.Term{call("F", chars(2000)...)}, 2, api.ErrLarge, 2, 2},
		{[]api.Term{call("F", chars(1000)...)}, 3, api.ErrLarge, 3, 3},
		{append([]api.Term{call("F", chars(100)...)}, chars(3899)...), 6, api.ErrLarge, 6, 6},
	} {
		x := newEngine(t, p)
		s, e := x.Run(c.field, 100)
		if e != c.e || s.Steps != c.steps {
			t.Errorf("Run = %d steps, %v, want %d, %v", s.Steps, e, c.steps, c.e)
		}
		asks(t, x, c.questions, c.tries)
		if ok, e := Both(program(t, p), c.field, 100); !ok || e != api.OK {
			t.Errorf("Both = %v, %v", ok, e)
		}
	}
	// a result that does not fit into the field is asked for, and counts
	x := newEngine(t, "F { 'a' e.1 = e.1 e.1 e.1 e.1 e.1 e.1 e.1; }")
	for i := range 3 {
		if s, e := x.Call("F", chars(3000), 9); e != api.ErrLarge || s.Steps != 0 {
			t.Errorf("Call = %d steps, %v", s.Steps, e)
		}
		asks(t, x, i+1, i+1)
	}
}

// TestAgain runs an engine after runs that failed, and that left something in the store.
func TestAgain(t *testing.T) {
	x := newEngine(t, many)
	first := map[string]ending{}
	for range 3 {
		for _, e := range []string{"<Say a>", "<Cp 'k'>", "<Dg 'k'> <F 'c'>", "<F 'aa'>", "<Loop>", "<Nothing>"} {
			s, code := x.Run(parsed(t, e), 20)
			if end, ok := first[e]; ok && !same(end, ending{s, code}) {
				t.Errorf("Run of %s = %v, %v, want %v", e, s, code, end)
			}
			first[e] = ending{s, code}
		}
	}
}

// TestMemory changes what was handed in, and what was handed back.
func TestMemory(t *testing.T) {
	p := program(t, "F { 'a' e.1 = ('b') <F e.1>; = <Br 'k=v'>; }")
	x, e := New(p)
	if e != api.OK {
		t.Fatal(e)
	}
	s := p.Functions[0].Sentences[0]
	s.Left[0].Text, s.Right[0].Kids[0].Text = "x", "x"
	p.Functions[0].Sentences[1] = s
	l := parsed(t, "(c) <F 'aa'>")
	for range 2 {
		got, e := x.Run(l, 9)
		if e != api.OK || text(got.Field) != "(c) ('b') ('b')" || len(got.Store.Buried) != 1 || text(got.Store.Buried[0].Value) != "'v'" {
			t.Errorf("Run = %v, %v", got, e)
		}
		got.Field[0].Kids[0].Text, got.Field[1].Kids[0].Text, got.Store.Buried[0].Value[0].Text = "x", "x", "x"
	}
	if text(l) != "(c) <F 'aa'>" {
		t.Errorf("the expression has changed: %s", text(l))
	}
}

// TestManySentences has a function with as many sentences as may be, and a graph whose questions go on.
func TestManySentences(t *testing.T) {
	var b strings.Builder
	b.WriteString("F { ")
	for i := range 40 {
		c := string(rune('a' + i%26))
		b.WriteString("'" + c + "' e.1 '" + string(rune('a'+i/2)) + "' s.2 = " + c + " <F e.1 s.2>; ")
	}
	b.WriteString("}")
	p := program(t, b.String())
	for _, arg := range []string{"'a'", "'abaxbay'", "'zabcd'", "'bbbbb'", "'nmlax'"} {
		if ok, e := Both(p, parsed(t, "<F "+arg+">"), 99); !ok || e != api.OK {
			t.Errorf("Both = %v, %v", ok, e)
		}
	}
}

// TestSame has endings that differ in one thing.
func TestSame(t *testing.T) {
	right := func() ending {
		return ending{api.State{
			Field: parsed(t, "a (b)"),
			Store: api.Store{Buried: []api.Buried{{Key: parsed(t, "k"), Value: parsed(t, "v")}}, Output: []string{"o"}},
			Steps: 3,
		}, api.ErrFuel}
	}
	if !same(right(), right()) || !same(ending{}, ending{api.State{Field: []api.Term{}}, api.OK}) {
		t.Error("equal endings differ")
	}
	for i, change := range []func(*ending){
		func(e *ending) { e.code = api.OK },
		func(e *ending) { e.state.Steps++ },
		func(e *ending) { e.state.Field[1].Kids[0].Text = "c" },
		func(e *ending) { e.state.Store.Output[0] = "p" },
		func(e *ending) { e.state.Store.Output = nil },
		func(e *ending) { e.state.Store.Buried = nil },
		func(e *ending) { e.state.Store.Buried[0].Key = nil },
		func(e *ending) { e.state.Store.Buried[0].Value = nil },
	} {
		e := right()
		if change(&e); same(e, right()) || same(right(), e) {
			t.Errorf("%d: endings that differ are equal", i)
		}
	}
}
