package extend_test

import (
	"slices"
	"strconv"
	"testing"

	"chiasmus/api"
	"chiasmus/check"
	"chiasmus/extend"
	"chiasmus/field"
	"chiasmus/term"
)

// TestTries has matches up to MaxTries, and more; there are more of them than a list of matches may have.
func TestTries(t *testing.T) {
	at := func(n int) []api.Term { return append(chars(n-1), term.Chars("b")...) }
	pairs := func(n int) string { return "<F '" + long("a", n) + "'>" } // with n (n - 1) / 2 pairs of places
	// 50 matches of the pattern, each one with 99 of a condition
	full := "F { e.1 s.2 e.3, '" + long("a", 99) + "' : e.4 s.5 e.6, A : B = ; "
	for _, c := range []struct {
		name, program string
		e             []api.Term
		want          string
		steps         int
		code          api.Errno
	}{
		{"a match far behind", "F { e.1 s.2 e.3, s.2 : 'b' = found; }", call("F", at(1200)...), "found", 1, 0},
		{"a match of a condition far behind", "F { e.1, e.1 : e.2 'x' s.3 e.4, s.3 : 'b' = found; e.1 = no; }",
			call("F", append(slices.Repeat(term.Chars("xa"), 600), term.Chars("xb")...)...), "found", 1, 0},
		{"all matches", "F { e.1 s.2 e.3, A : B = ; e.1 = none; }", call("F", chars(1200)...), "none", 1, 0},
		{"too many matches", "F { e.1 s.2 e.3 s.4 e.5, A : B = ; e.1 = none; }", parsed(t, pairs(101)), "102 terms", 0, api.ErrLarge},
		{"as many matches as may be", "F { e.1 s.2 e.3 s.4 e.5, A : B = ; e.1 = none; }", parsed(t, pairs(100)), "none", 1, 0},
		{"matches of conditions count", "F { e.1 s.2 e.3 s.4 e.5, A : s.6, B : C = ; e.1 = none; }", parsed(t, pairs(72)), "73 terms", 0, api.ErrLarge},
		{"not too many with them", "F { e.1 s.2 e.3 s.4 e.5, A : s.6, B : C = ; e.1 = none; }", parsed(t, pairs(71)), "none", 1, 0},
		{"matches without conditions do not count", "F { e.1 s.2 e.3 s.4 e.5, A : B = ; e.1 = <G e.1>; } G { e.1, <H <H a>> : a = ok; } H { s.1 = s.1; }",
			parsed(t, pairs(100)), "ok", 4, 0},
		{"each step begins anew", "F { e.1 s.2 e.3 s.4 e.5, A : B = ; e.1 = <F e.1>; }", parsed(t, pairs(100)), "101 terms", 9, api.ErrFuel},
		{"steps in conditions count together", "F { e.1, <G e.1> <G e.1> : = ; } G { e.1 s.2 e.3 s.4 e.5, A : B = ; e.1 = ; }", parsed(t, pairs(72)), "73 terms", 1, api.ErrLarge},
		{"not too many in conditions", "F { e.1, <G e.1> <G e.1> : = ; } G { e.1 s.2 e.3 s.4 e.5, A : B = ; e.1 = ; }", parsed(t, pairs(71)), "", 3, 0},
		{"matches in blocks count", "F { e.1, e.1 : { e.2 s.3 e.4 s.5 e.6, A : B = ; e.2 = none; }; }", parsed(t, pairs(101)), "102 terms", 0, api.ErrLarge},
		{"just as many as may be", full + "e.1 = none; }", call("F", chars(50)...), "none", 1, 0},
		{"just as many, and then one without conditions", full + "e.1, e.1 : { e.2 = none; }; }", call("F", chars(50)...), "none", 1, 0},
		{"one too many", full + "e.1, A : A = none; }", call("F", chars(50)...), "51 terms", 0, api.ErrLarge},
		{"one too many in a block", full + "e.1, e.1 : { e.2, A : A = none; }; }", call("F", chars(50)...), "51 terms", 0, api.ErrLarge},
		{"enough for others", full + "e.1, <G> : e.2 = none; } G { = ; }", call("F", chars(49)...), "none", 2, 0},
	} {
		s, code := extend.Run(program(t, c.program), c.e, 9)
		if code != c.code || text(s.Field) != c.want || s.Steps != c.steps {
			t.Errorf("%s: Run = %s, %d, %v, want %s, %d, %v", c.name, text(s.Field), s.Steps, code, c.want, c.steps, c.code)
		}
	}
}

// TestTriesOfAStep has the limit in Step and Choose.
func TestTriesOfAStep(t *testing.T) {
	p := program(t, "F { e.1 s.2 e.3 s.4 e.5, A : B = ; e.1 = none; }")
	for n, want := range map[int]api.Errno{100: api.OK, 101: api.ErrLarge} {
		if s, code := extend.Step(p, api.State{Field: call("F", chars(n)...)}, 9); code != want || code != api.OK && !isZero(s) {
			t.Errorf("Step of %d Chars = %v, %v", n, s, code)
		}
		if c, s, code := extend.Choose(p, "F", chars(n), 9); code != want || code != api.OK && (!isZero(s) || len(c.Path) != 0 || len(c.Bindings) != 0) {
			t.Errorf("Choose of %d Chars = %v, %v, %v", n, c, s, code)
		}
	}
}

// nesting is a program in which F of a number evaluates so many conditions within each other, and G as many subjects.
const nesting = `
F { 0 = end; s.n, <F <Sub s.n 1>> : e.1 = e.1 s.n; }
G { 0 = end; s.n, <G <Sub s.n 1>> : { e.1 = e.1 s.n; }; }
H { 1, x : e.1 = end; s.n, <H <Sub s.n 1>> : e.1 = e.1 s.n; }
L { 0 e.1, <M e.1> : = ; s.n e.1, <L <Sub s.n 1> e.1> : = ; }
M { e.1, e.1 e.1 e.1 e.1 e.1 e.1 : e.2 = ; }
`

func TestNested(t *testing.T) {
	for _, c := range []struct {
		e     string
		want  string
		steps int
		code  api.Errno
	}{
		{"<F 2>", "end 1 2", 5, 0},
		{"<F 30> <F 30>", "64 terms", 122, 0},
		{"a <F 31>", "a <F 31>", 30, extend.ErrNested},
		{"<L 29 '" + long("a", 3900) + "'>", "3902 terms", 29, api.ErrLarge},
		{"<L 28 '" + long("a", 3900) + "'>", "3902 terms", 28, api.ErrLarge},
		{"<L 29 a>", "<L 29 a>", 29, extend.ErrNested},
		{"<L 28 a>", "", 58, 0},
		{"<G 30>", "31 terms", 61, 0},
		{"<G 31>", "<G 31>", 30, extend.ErrNested},
		{"<H 30>", "30 terms", 59, 0},
		{"<H 31>", "<H 31>", 30, extend.ErrNested},
	} {
		want := c.want
		if c.e == "<F 30> <F 30>" {
			want = "62 terms"
		}
		s, code := extend.Run(program(t, nesting), parsed(t, c.e), 1000)
		got := text(s.Field)
		if n := len(s.Field); code == api.OK && n > 5 {
			got = strconv.Itoa(n) + " terms"
		}
		if code != c.code || got != want || s.Steps != c.steps {
			t.Errorf("Run of %s = %s, %d, %v, want %s, %d, %v", c.e, got, s.Steps, code, want, c.steps, c.code)
		}
	}
	for n, want := range map[string]api.Errno{"30": api.OK, "31": extend.ErrNested} {
		if s, code := extend.Step(program(t, nesting), api.State{Field: parsed(t, "<F "+n+">")}, 1000); code != want || code != api.OK && !isZero(s) {
			t.Errorf("Step of %s = %v, %v", n, s, code)
		}
		if _, s, code := extend.Choose(program(t, nesting), "F", parsed(t, n), 1000); code != want || code != api.OK && !isZero(s) {
			t.Errorf("Choose of %s = %v, %v", n, s, code)
		}
	}
}

func TestSizes(t *testing.T) {
	const src = `
T { e.1 = e.1 e.1; }
E { e.1, e.1 e.1 e.1 e.1 e.1 : e.2 = ; }
S { e.1, e.1 e.1 e.1 e.1 e.1 : { e.2 = ; }; }
V { e.1, e.1 e.1 : e.2 = ; }
W { e.1, <T e.1> : e.2 = ; }
U { e.1, <T e.1> : { e.2 = ; }; }
R { e.1, e.1 : e.2 = e.1 e.1 e.1 e.1 e.1; }
D { e.1, (e.1) : e.2 = ; }
B { e.1, (e.1) : { e.2 = ; }; }
Q { e.1, e.1 : e.2 = (e.2); }
`
	p := program(t, src)
	for _, c := range []struct {
		name  string
		e     []api.Term
		steps int
		code  api.Errno
	}{
		{"an argument that is too large", call("E", call("T", chars(2001)...)...), 1, api.ErrLarge},
		{"an expression", call("E", chars(800)...), 1, 0},
		{"an expression whose value is too large", call("E", chars(801)...), 0, api.ErrLarge},
		{"an expression that is too large", call("E", call("T", chars(2000)...)...), 1, api.ErrLarge},
		{"a subject", call("S", chars(800)...), 1, 0},
		{"a subject whose value is too large", call("S", chars(801)...), 0, api.ErrLarge},
		{"a value", call("V", chars(2000)...), 1, 0},
		{"a value that is too large", call("V", chars(2001)...), 0, api.ErrLarge},
		{"a value of a call", call("W", chars(2000)...), 2, 0},
		{"a value of a call that is too large", call("W", chars(2001)...), 1, api.ErrLarge},
		{"a subject's value of a call", call("U", chars(2000)...), 2, 0},
		{"a subject's value of a call that is too large", call("U", chars(2001)...), 1, api.ErrLarge},
		{"a result", call("R", call("T", chars(2000)...)...), 2, 0},
		{"a result with more", append(call("R", call("T", chars(2000)...)...), parsed(t, "x")...), 1, api.ErrLarge},
		{"a condition at the limit of depth", call("D", nested(99)...), 1, 0},
		{"a subject at the limit of depth", call("B", nested(99)...), 1, 0},
		{"a result at the limit of depth", call("Q", nested(99)...), 1, 0},
		{"a result beyond it", nested(1, call("Q", nested(98)...)...), 1, 0},
	} {
		s, code := extend.Run(p, c.e, 9)
		if code != c.code || s.Steps != c.steps || field.Check(s) != api.OK {
			t.Errorf("%s: Run = %d terms, %d steps, %v, want %d, %v", c.name, len(s.Field), s.Steps, code, c.steps, c.code)
		}
	}
}

// TestDepth has conditions, subjects and results that are too deep: by a value that is as deep as may be.
func TestDepth(t *testing.T) {
	for src, want := range map[string]api.Errno{
		"F { e.1, (e.1) : e.2 = ; }":           api.ErrLarge,
		"F { e.1, (e.1 <F>) : e.2 = ; }":       api.ErrLarge,
		"F { e.1, e.1 : e.2 = ; }":             api.OK,
		"F { e.1, (e.1) : { e.2 = ; }; }":      api.ErrLarge,
		"F { e.1, e.1 : { e.2 = ; }; }":        api.OK,
		"F { e.1, e.1 : e.2 = (e.2); }":        api.ErrLarge,
		"F { e.1, e.1 : e.2 = <G e.2>; }":      api.ErrLarge,
		"F { e.1, e.1 : e.2 = e.2 (); }":       api.OK,
		"F { (e.1), <F (e.1)> : = ; e.1 = ; }": api.ErrLarge,
	} {
		c, s, code := extend.Choose(program(t, src), "F", nested(100), 9)
		if code != want || code != api.OK && (!isZero(s) || len(c.Path) != 0 || len(c.Bindings) != 0) {
			t.Errorf("%s: Choose = %v, %v, want %v", src, c.Path, code, want)
		}
	}
}

// TestManyVariables binds more variables than a list of bindings may have.
func TestManyVariables(t *testing.T) {
	variables := func(from, to int) []api.Term {
		var l []api.Term
		for i := from; i < to; i++ {
			l = append(l, api.Term{Kind: api.SVar, Text: strconv.Itoa(i)})
		}
		return l
	}
	first, second := variables(0, 2500), variables(2500, 5000)
	s := api.Sentence{
		Left:  first,
		Tests: []api.Test{{Expr: chars(2500), Pattern: second}, {Expr: first[:1], Pattern: second[2499:]}},
		Right: slices.Concat(second[:1], first[2499:]),
	}
	p := api.Program{Functions: []api.Function{{Name: "F", Sentences: []api.Sentence{s}}}}
	c, got, code := extend.Choose(p, "F", chars(2500), 9)
	if code != api.OK || text(got.Field) != "'aa'" || len(c.Bindings) != 5000 {
		t.Errorf("Choose = %s, %d bindings, %v", text(got.Field), len(c.Bindings), code)
	}
}

func TestStepsOfStates(t *testing.T) {
	p := program(t, "F { e.1, <G> : e.2 = ; } G { = ; } L { = <T>; } T { = ; }")
	for _, c := range []struct {
		e     string
		steps int
		want  int
		code  api.Errno
	}{
		{"<F>", 0, 2, 0},
		{"<F>", 999999998, 1000000000, 0},
		{"<F>", 999999999, 0, api.ErrRange},
		{"<F>", 1000000000, 0, api.ErrRange},
		{"<L>", 999999999, 1000000000, 0},
		{"<L>", 1000000000, 0, api.ErrRange},
		{"", 1000000000, 0, api.ErrClosed},
	} {
		s, code := extend.Step(p, api.State{Field: parsed(t, c.e), Steps: c.steps}, 9)
		if code != c.code || s.Steps != c.want || code != api.OK && !isZero(s) {
			t.Errorf("Step of %s from %d = %d, %v", c.e, c.steps, s.Steps, code)
		}
	}
}

func TestErrors(t *testing.T) {
	p, wrong := program(t, example), []api.Term{{Kind: api.Number, Text: "01"}}
	faulty := api.Program{Functions: []api.Function{{Name: "1"}}}
	for _, c := range []struct {
		name string
		p    api.Program
		e    []api.Term
		fuel int
		want api.Errno
	}{
		{"a wrong program", faulty, wrong, -1, check.ErrName},
		{"a wrong term", p, wrong, -1, api.ErrForm},
		{"a variable", p, parsed(t, "<F e.1>"), -1, api.ErrForm},
		{"too many terms", p, chars(4001), -1, api.ErrCount},
		{"too deep", p, nested(101), -1, api.ErrDepth},
		{"fuel below 0", p, nil, -1, api.ErrRange},
		{"fuel above the limit", p, nil, 100001, api.ErrRange},
		{"fuel at the limit", p, nil, 100000, api.OK},
	} {
		if s, code := extend.Run(c.p, c.e, c.fuel); code != c.want || !isZero(s) {
			t.Errorf("%s: Run = %v, %v, want %v", c.name, s, code, c.want)
		}
		want := c.want
		if want == api.ErrRange {
			want = api.OK
		}
		if s, code := extend.Start(c.p, c.e); code != want || !isZero(s) {
			t.Errorf("%s: Start = %v, %v, want %v", c.name, s, code, want)
		}
	}
	for _, c := range []struct {
		name string
		p    api.Program
		s    api.State
		fuel int
		want api.Errno
	}{
		{"a wrong program", faulty, api.State{Field: wrong}, -1, check.ErrName},
		{"a wrong state", p, api.State{Field: wrong}, -1, field.ErrState},
		{"a state with too many steps", p, api.State{Steps: 1000000001}, -1, field.ErrState},
		{"fuel below 0", p, api.State{}, -1, api.ErrRange},
		{"fuel above the limit", p, api.State{}, 100001, api.ErrRange},
		{"no call", p, api.State{Field: parsed(t, "a")}, 0, api.ErrClosed},
		{"no fuel", p, api.State{Field: parsed(t, "<X>")}, 0, api.ErrFuel},
		{"no function", p, api.State{Field: parsed(t, "<X>")}, 1, api.ErrUndefined},
		{"no function, and too large", p, api.State{Field: call("X", chars(4001)...)}, 1, api.ErrLarge},
		{"no sentence", p, api.State{Field: parsed(t, "<G (a)>")}, 1, api.ErrRecognition},
		{"a built-in function", p, api.State{Field: parsed(t, "<Add>")}, 1, api.ErrBuiltin},
		{"fuel that is used up within", program(t, "F { e.1, <G> : = ; } G { = ; }"), api.State{Field: parsed(t, "<F>")}, 1, api.ErrFuel},
	} {
		if s, code := extend.Step(c.p, c.s, c.fuel); code != c.want || !isZero(s) {
			t.Errorf("%s: Step = %v, %v, want %v", c.name, s, code, c.want)
		}
	}
}

func TestStart(t *testing.T) {
	e := parsed(t, "a (<F b>)")
	s, code := extend.Start(program(t, example), e)
	if code != api.OK || !term.Equal(s.Field, e) || s.Steps != 0 || len(s.Store.Buried)+len(s.Store.Output) != 0 {
		t.Errorf("Start = %v, %v", s, code)
	}
	s.Field[1].Kids[0].Text = "X"
	if text(e) != "a (<F b>)" {
		t.Error("the expression has changed")
	}
}

func TestChoose(t *testing.T) {
	const src = "F { a = first; e.1 s.2 e.3, s.2 : b, <Prout e.3> : e.4 = (e.1) e.3 <X>; e.1, <G e.1> : { c = never; s.5 e.6, e.6 : { e.7 s.5 e.8 = e.7 <Br 'k=' e.8>; = s.5; }; }; } G { c e.1 = ; e.1 = e.1; }"
	p := program(t, src)
	for _, c := range []struct {
		function, value string
		fuel            int
		path            []int
		bindings        string
		result          string
		steps           int
		code            api.Errno
	}{
		{"F", "a", 9, []int{0}, "", "first", 0, 0},
		{"F", "a", 1, []int{0}, "", "first", 0, 0},
		{"F", "a", 0, nil, "", "", 0, api.ErrFuel},
		{"F", "x b y", 9, []int{1}, "e.1[x] s.2[b] e.3[y] e.4[]", "(x) y <X>", 1, 0},
		{"F", "x b y", 2, []int{1}, "e.1[x] s.2[b] e.3[y] e.4[]", "(x) y <X>", 1, 0},
		{"F", "x b y", 1, nil, "", "", 0, api.ErrFuel},
		{"F", "d e d f", 9, []int{2, 1, 0}, "e.1[d e d f] s.5[d] e.6[e d f] e.7[e] e.8[f]", "e <Br 'k=' f>", 1, 0},
		{"F", "d", 9, []int{2, 1, 1}, "e.1[d] s.5[d] e.6[]", "d", 1, 0},
		{"F", "d e", 9, nil, "", "", 0, api.ErrRecognition},
		{"F", "(a)", 9, nil, "", "", 0, api.ErrRecognition},
		{"G", "c", 9, []int{0}, "e.1[]", "", 0, 0},
		{"G", "", 9, []int{1}, "e.1[]", "", 0, 0},
		{"X", "a", 9, nil, "", "", 0, api.ErrMissing},
		{"Add", "1 2", 9, nil, "", "", 0, api.ErrMissing},
		{"", "e.1", -1, nil, "", "", 0, api.ErrMissing},
		{"F", "s.1", -1, nil, "", "", 0, api.ErrForm},
		{"F", "<F>", -1, nil, "", "", 0, api.ErrForm},
		{"F", "a", -1, nil, "", "", 0, api.ErrRange},
		{"F", "a", 100001, nil, "", "", 0, api.ErrRange},
		{"F", "a", 100000, []int{0}, "", "first", 0, 0},
	} {
		got, s, code := extend.Choose(p, c.function, parsed(t, c.value), c.fuel)
		if code != c.code || !slices.Equal(got.Path, c.path) || bindingsText(got.Bindings) != c.bindings || !term.Equal(s.Field, parsed(t, c.result)) || s.Steps != c.steps {
			t.Errorf("Choose of %s with %s and %d = %v, %s, %s, %d, %v", c.function, c.value, c.fuel, got.Path, bindingsText(got.Bindings), text(s.Field), s.Steps, code)
		}
		if c.steps == 1 && c.path[0] == 1 != slices.Equal(s.Store.Output, []string{"y"}) {
			t.Errorf("the output is %v", s.Store.Output)
		}
	}
	faulty := api.Program{Functions: []api.Function{{Name: "1"}}}
	if _, _, code := extend.Choose(faulty, "X", nil, -1); code != check.ErrName {
		t.Errorf("Choose of a wrong program: %v", code)
	}
	if _, _, code := extend.Choose(p, "F", chars(4001), -1); code != api.ErrCount {
		t.Errorf("Choose of a large value: %v", code)
	}
}

// TestNothingIsChanged looks at the arguments behind runs.
func TestNothingIsChanged(t *testing.T) {
	p := program(t, "F { e.1, <Br 'k=' e.1> <Cp 'k'> : e.2 = e.2 <Dg 'k'>; }")
	e := parsed(t, "x (<F a (b)>)")
	st := api.Store{Buried: make([]api.Buried, 0, 8), Output: []string{"o"}}
	st.Buried = append(st.Buried, api.Buried{Key: term.Chars("k"), Value: parsed(t, "v")})
	begin := api.State{Field: e, Store: st}
	if s, code := extend.Step(p, begin, 9); code != api.OK || text(s.Field) != "x (a (b) <Dg 'k'>)" || len(s.Store.Buried) != 2 {
		t.Errorf("Step = %v, %v", s, code)
	}
	if text(e) != "x (<F a (b)>)" || len(st.Buried) != 1 || len(st.Buried[:2][1].Key) != 0 || text(st.Buried[0].Value) != "v" {
		t.Error("the state has changed")
	}
	if text(p.Functions[0].Sentences[0].Right) != "e.2 <Dg 'k'>" {
		t.Error("the program has changed")
	}
}
