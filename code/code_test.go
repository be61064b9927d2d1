package code_test

import (
	"slices"
	"strings"
	"testing"

	"chiasmus/api"
	"chiasmus/check"
	"chiasmus/code"
	"chiasmus/project"
	"chiasmus/syntax"
	"chiasmus/term"
)

var long = strings.Repeat

func parsed(t testing.TB, s string) []api.Term {
	t.Helper()
	l, at, e := term.Parse(s)
	if e != api.OK {
		t.Fatalf("Parse(%q) = %d, %v", s, at, e)
	}
	return l
}

func program(t testing.TB, s string) api.Program {
	t.Helper()
	p, at, e := syntax.Program(s)
	if e != api.OK {
		t.Fatalf("Program(%q) = %d, %v", s, at, e)
	}
	return p
}

func compiled(t testing.TB, s string) code.Unit {
	t.Helper()
	u, e := code.Compile(program(t, s))
	if e != api.OK {
		t.Fatalf("Compile(%q) = %v", s, e)
	}
	return u
}

// written returns the text of a program.
func written(t testing.TB, p api.Program) string {
	t.Helper()
	s, e := syntax.Write(syntax.Module{Functions: p.Functions})
	if e != api.OK {
		t.Fatalf("Write = %v", e)
	}
	return s
}

func symbol(t testing.TB, s string) api.Term { return parsed(t, s)[0] }

// instructions returns those with a text: `'a' B 1` put, `( )` are brackets of a group, `<F >` those of a call,
// `e.1` moves and `+e.1` copies.
func instructions(t testing.TB, s string) []code.Ins {
	t.Helper()
	var l []code.Ins
	for _, w := range strings.Fields(s) {
		i := code.Ins{}
		switch {
		case w == "(":
			i.Kind = code.Begin
		case w == ")":
			i.Kind = code.End
		case w == ">":
			i.Kind = code.Stop
		case w[0] == '<':
			i.Kind, i.Text = code.Call, w[1:]
		case w[0] == '+':
			i.Kind, i.Text = code.Copy, w[1:]
		case len(w) > 1 && w[1] == '.':
			i.Kind, i.Text = code.Move, w
		default:
			i.Kind, i.Symbol = code.Put, symbol(t, w)
		}
		l = append(l, i)
	}
	return l
}

// insText is the way back.
func insText(l []code.Ins) string {
	var words []string
	for _, i := range l {
		w := []string{"?", "", "(", ")", "<", ">", "", "+"}[i.Kind] + i.Text
		if i.Kind == code.Put {
			w, _ = term.Text([]api.Term{i.Symbol})
		}
		words = append(words, w)
	}
	return strings.Join(words, " ")
}

// sameUnits compares all fields, and takes nil lists for empty ones.
func sameUnits(a, b code.Unit) bool {
	return slices.EqualFunc(a.Routines, b.Routines, func(x, y code.Routine) bool {
		return x.Name == y.Name && x.Entry == y.Entry && slices.EqualFunc(x.Rules, y.Rules, sameRules)
	})
}

func sameRules(a, b code.Rule) bool {
	sameSymbols := func(x, y api.Term) bool { return term.Equal([]api.Term{x}, []api.Term{y}) }
	ops := slices.EqualFunc(a.Plan.Ops, b.Plan.Ops, func(x, y project.Op) bool {
		return x.Kind == y.Kind && x.Hole == y.Hole && x.Right == y.Right && x.Var == y.Var && sameSymbols(x.Symbol, y.Symbol)
	})
	return ops && slices.Equal(a.Plan.Given, b.Plan.Given) && slices.EqualFunc(a.Build, b.Build, func(x, y code.Ins) bool {
		return x.Kind == y.Kind && x.Text == y.Text && sameSymbols(x.Symbol, y.Symbol)
	})
}

func isZero(u code.Unit) bool { return len(u.Routines) == 0 }

const example = "F { s.1 e.2 = e.2 (s.1) <G s.1>; } G { = ; }"

func TestCodes(t *testing.T) {
	if code.ErrUnit != 210 || code.ErrLine != 211 {
		t.Errorf("the codes are %d and %d", int(code.ErrUnit), int(code.ErrLine))
	}
}

func TestCompile(t *testing.T) {
	for _, c := range []struct{ left, right, want string }{
		{"s.1 e.2", "e.2 (s.1) <G s.1>", "e.2 ( +s.1 ) <G s.1 >"},
		{"", "", ""},
		{"e.1", "", ""},
		{"e.1", "e.1", "e.1"},
		{"e.1 s.1 t.1", "e.1 s.1 t.1 e.1 s.1 t.1", "+e.1 +s.1 +t.1 e.1 s.1 t.1"},
		{"s.1", "s.1 s.1 s.1", "+s.1 +s.1 s.1"},
		{"s.1 e.2", "(s.1 (e.2)) <F s.1> 'ab' C -1", "( +s.1 ( e.2 ) ) <F s.1 > 'a' 'b' C -1"},
		{"", "<F (<G <H>>)> ()", "<F ( <G <H > > ) > ( )"},
	} {
		f := api.Function{Name: "F", Entry: true, Sentences: []api.Sentence{{Left: parsed(t, c.left), Right: parsed(t, c.right)}}}
		u, e := code.Compile(api.Program{Functions: []api.Function{f}})
		if e != api.OK || len(u.Routines) != 1 || u.Routines[0].Name != "F" || !u.Routines[0].Entry || len(u.Routines[0].Rules) != 1 {
			t.Fatalf("Compile of %s = %s: %v, %v", c.left, c.right, u, e)
		}
		plan, _ := project.Compile(f.Sentences[0].Left, nil)
		want := code.Rule{Plan: plan, Build: instructions(t, c.want)}
		if rule := u.Routines[0].Rules[0]; !sameRules(rule, want) {
			t.Errorf("Compile of %s = %s: %v, %s, want %v, %s", c.left, c.right, rule.Plan, insText(rule.Build), plan, c.want)
		}
	}
	u := compiled(t, "A { e.1 = ; } $ENTRY B { 'a' = b; = ; e.1 = e.1; }")
	if len(u.Routines) != 2 || u.Routines[0].Name != "A" || u.Routines[0].Entry || !u.Routines[1].Entry || len(u.Routines[1].Rules) != 3 {
		t.Errorf("Compile = %v", u)
	}
	if u, e := code.Compile(api.Program{}); e != api.OK || !isZero(u) {
		t.Errorf("Compile of nothing = %v, %v", u, e)
	}
}

func TestCompileErrors(t *testing.T) {
	unbound := api.Program{Functions: []api.Function{{Name: "F", Sentences: []api.Sentence{{Right: parsed(t, "e.1")}}}}}
	wrong := program(t, "F { e.1, e.1 : = ; }")
	wrong.Functions[0].Name = "1"
	for _, c := range []struct {
		p    api.Program
		want api.Errno
	}{
		{api.Program{Functions: []api.Function{{Name: "F"}}}, api.ErrCount},
		{api.Program{Functions: make([]api.Function, 151)}, api.ErrCount},
		{unbound, check.ErrUnbound},
		{wrong, check.ErrName},
		{program(t, "F { e.1, e.1 : = ; }"), api.ErrCore},
		{program(t, "F { e.1, e.1 : { = ; }; }"), api.ErrCore},
	} {
		if u, e := code.Compile(c.p); e != c.want || !isZero(u) {
			t.Errorf("Compile of %v = %v, %v, want %v", c.p, u, e, c.want)
		}
	}
}

// TestMemory changes what was handed in, and what was handed back.
func TestMemory(t *testing.T) {
	p := program(t, "F { 'a' e.1 = (e.1 'b'); }")
	u, _ := code.Compile(p)
	s := &p.Functions[0].Sentences[0]
	s.Left[0].Text, s.Right[0].Kids[1].Text = "x", "x"
	if !sameUnits(u, compiled(t, "F { 'a' e.1 = (e.1 'b'); }")) {
		t.Errorf("the unit has changed: %v", u)
	}
	q, _ := code.Program(u)
	q.Functions[0].Sentences[0].Left[0].Text = "x"
	q.Functions[0].Sentences[0].Right[0].Kids[1].Text = "x"
	if q, e := code.Program(u); e != api.OK || !strings.Contains(written(t, q), "'a' e.1 = (e.1 'b')") {
		t.Errorf("Program = %v, %v", q, e)
	}
	b := []api.Binding{{Var: "e.1", Value: parsed(t, "(a)")}}
	l, _ := code.Build(instructions(t, "+e.1 e.1"), b)
	l[0].Kids[0].Text = "x"
	if text, _ := term.Text(l); text != "(x) (a)" || b[0].Value[0].Kids[0].Text != "a" {
		t.Errorf("Build = %s of %v", text, b)
	}
}

// ruleOf returns a rule with the plan of a pattern, and instructions.
func ruleOf(t testing.TB, pattern, build string) code.Rule {
	t.Helper()
	plan, e := project.Compile(parsed(t, pattern), nil)
	if e != api.OK {
		t.Fatalf("Compile(%s) = %v", pattern, e)
	}
	return code.Rule{Plan: plan, Build: instructions(t, build)}
}

func unitOf(rules ...code.Rule) code.Unit {
	return code.Unit{Routines: []code.Routine{{Name: "F", Rules: rules}}}
}

// TestCheckBuild has instructions that are not right where the pattern is `s.1 t.2 e.3`, and such that are.
func TestCheckBuild(t *testing.T) {
	for _, c := range []struct {
		build string
		e     api.Errno
	}{
		{"", api.OK},
		{"s.1 t.2 e.3", api.OK},
		{"+s.1 +s.1 +t.2 s.1 t.2", api.OK},
		{"( <G ( ) e.3 > )", api.OK},
		{"e.3 e.3", code.ErrUnit},
		{"e.3 +e.3", code.ErrUnit},
		{"+e.3", code.ErrUnit},
		{"e.3 +t.2", code.ErrUnit},
		{"+e.3 ( +e.3 )", code.ErrUnit},
		{"( +e.3 ) e.3 ( e.3 )", code.ErrUnit},
		{"e.1", code.ErrUnit},
		{"s.3", code.ErrUnit},
		{"(", code.ErrUnit},
		{"<G", code.ErrUnit},
		{")", code.ErrUnit},
		{">", code.ErrUnit},
		{"( >", code.ErrUnit},
		{"<G )", code.ErrUnit},
		{"( <G ) >", code.ErrUnit},
		{"<G ( > )", code.ErrUnit},
		{"( ) )", code.ErrUnit},
		{"( ( )", code.ErrUnit},
	} {
		if e := code.Check(unitOf(ruleOf(t, "s.1 t.2 e.3", c.build))); e != c.e {
			t.Errorf("Check of %s = %v, want %v", c.build, e, c.e)
		}
	}
}

// wrongShapes are instructions with a wrong kind, or with fields that their kind does not have.
func wrongShapes(t testing.TB) []code.Ins {
	a := symbol(t, "'a'")
	return []code.Ins{
		{},
		{Kind: -1},
		{Kind: 8},
		{Kind: code.Put},
		{Kind: code.Put, Text: "a", Symbol: a},
		{Kind: code.Put, Symbol: api.Term{Kind: api.Char, Text: "ab"}},
		{Kind: code.Put, Symbol: api.Term{Kind: api.Word}},
		{Kind: code.Put, Symbol: api.Term{Kind: api.Number, Text: "01"}},
		{Kind: code.Put, Symbol: api.Term{Kind: api.Char, Text: "a", Kids: []api.Term{a}}},
		{Kind: code.Put, Symbol: api.Term{Kind: api.Group}},
		{Kind: code.Put, Symbol: symbol(t, "s.1")},
		{Kind: code.Begin, Text: "a"},
		{Kind: code.Begin, Symbol: a},
		{Kind: code.End, Text: "a"},
		{Kind: code.End, Symbol: a},
		{Kind: code.Call},
		{Kind: code.Call, Text: "1"},
		{Kind: code.Call, Text: "a b"},
		{Kind: code.Call, Text: long("a", 41)},
		{Kind: code.Call, Text: "G", Symbol: a},
		{Kind: code.Stop, Text: "G"},
		{Kind: code.Stop, Symbol: a},
		{Kind: code.Move},
		{Kind: code.Move, Text: "1"},
		{Kind: code.Move, Text: "e."},
		{Kind: code.Move, Text: "e.1", Symbol: a},
		{Kind: code.Move, Text: "e.1", Symbol: api.Term{Kids: []api.Term{a}}},
		{Kind: code.Copy},
		{Kind: code.Copy, Text: "x.1"},
		{Kind: code.Copy, Text: "e.1", Symbol: a},
	}
}

// around returns instructions with one among them, so that brackets are closed.
func around(i code.Ins) []code.Ins {
	l := []code.Ins{i, {Kind: code.Move, Text: "e.1"}}
	switch i.Kind {
	case code.Begin, code.Call:
		l = append(l, code.Ins{Kind: i.Kind + 1})
	case code.End:
		l = append([]code.Ins{{Kind: code.Begin}}, l...)
	case code.Stop:
		l = append([]code.Ins{{Kind: code.Call, Text: "G"}}, l...)
	case code.Move:
		l = l[:1]
	}
	return l
}

func TestWrongShapes(t *testing.T) {
	binding := []api.Binding{{Var: "e.1"}, {Var: "1"}, {Var: "x.1"}, {Var: "e."}, {Var: ""}}
	for _, i := range wrongShapes(t) {
		rule := ruleOf(t, "e.1", "")
		rule.Build = around(i)
		if e := code.Check(unitOf(rule)); e != code.ErrUnit {
			t.Errorf("Check of %v = %v", i, e)
		}
		if l, e := code.Build(rule.Build, binding); e != code.ErrUnit || len(l) != 0 {
			t.Errorf("Build of %v = %v, %v", i, l, e)
		}
	}
}

// TestCheckPlans has plans that project takes, and such that it does not take.
func TestCheckPlans(t *testing.T) {
	right := ruleOf(t, "s.1 e.2", "s.1").Plan
	given, e := project.Compile(parsed(t, "s.1 e.2"), []string{"e.9"})
	if e != api.OK {
		t.Fatal(e)
	}
	// the right end first, where Compile begins at the left one
	other := project.Plan{Ops: []project.Op{{Kind: project.TakeS, Right: true, Var: "s.1"}, {Kind: project.TakeT, Var: "t.2"}, {Kind: project.Empty}}}
	opened := project.Plan{Ops: []project.Op{{Kind: project.Open, Var: "e.1"}, {Kind: project.Empty}}}
	broken := project.Plan{Ops: slices.Clone(right.Ops)}
	broken.Ops[0].Hole = 1
	var deep, wide project.Plan
	for i := range 101 {
		deep.Ops = append(deep.Ops, project.Op{Kind: project.Enter, Hole: i})
	}
	for i := 101; i >= 0; i-- {
		deep.Ops = append(deep.Ops, project.Op{Kind: project.Empty, Hole: i})
	}
	for range 4001 {
		wide.Ops = append(wide.Ops, project.Op{Kind: project.Symbol, Symbol: symbol(t, "'a'")})
	}
	wide.Ops = append(wide.Ops, project.Op{Kind: project.Empty})
	for _, p := range []project.Plan{other, opened, deep, wide, given} {
		if e := project.Check(p); e != api.OK {
			t.Fatalf("project.Check of %d operations = %v", len(p.Ops), e)
		}
	}
	for _, c := range []struct {
		name string
		plan project.Plan
		e    api.Errno
	}{
		{"the right one", right, api.OK},
		{"one with a given variable", given, code.ErrUnit},
		{"one in another order", other, code.ErrUnit},
		{"one that opens the last variable", opened, code.ErrUnit},
		{"one of a pattern that is too deep", deep, code.ErrUnit},
		{"one of a pattern that is too large", wide, code.ErrUnit},
		{"one that is not right", broken, project.ErrPlan},
		{"none", project.Plan{}, project.ErrPlan},
		{"one with too many operations", project.Plan{Ops: make([]project.Op, 9001)}, api.ErrCount},
	} {
		if e := code.Check(unitOf(code.Rule{Plan: c.plan})); e != c.e {
			t.Errorf("Check of %s = %v, want %v", c.name, e, c.e)
		}
		// its error comes ahead of that of the instructions, and behind that of the rule ahead
		if e := code.Check(unitOf(code.Rule{Plan: c.plan, Build: instructions(t, ")")})); c.e != api.OK && e != c.e {
			t.Errorf("Check of %s and wrong instructions = %v, want %v", c.name, e, c.e)
		}
		if e := code.Check(unitOf(ruleOf(t, "", ")"), code.Rule{Plan: c.plan})); e != code.ErrUnit {
			t.Errorf("Check of %s behind a wrong rule = %v", c.name, e)
		}
	}
}

func TestCheckRoutines(t *testing.T) {
	many := func(n int) []code.Ins { return slices.Repeat(instructions(t, "a"), n) }
	named := func(names ...string) code.Unit {
		var u code.Unit
		for _, name := range names {
			u.Routines = append(u.Routines, code.Routine{Name: name})
		}
		return u
	}
	ruled := func(n, ins int) code.Unit {
		u := unitOf(slices.Repeat([]code.Rule{ruleOf(t, "e.1", "")}, n)...)
		u.Routines[0].Rules[n-1].Build = many(ins)
		return u
	}
	names := make([]string, 150)
	for i := range names {
		names[i] = "F-" + long("a", i%30) + long("b", i/30)
	}
	broken := ruled(1, 9001)
	broken.Routines = append(named("1").Routines, broken.Routines...)
	for _, c := range []struct {
		name string
		u    code.Unit
		e    api.Errno
	}{
		{"nothing", code.Unit{}, api.OK},
		{"a routine without rules", named("F"), api.OK},
		{"as many routines as may be", named(names...), api.OK},
		{"too many routines", named(append(names, "F")...), api.ErrCount},
		{"as many rules and instructions as may be", ruled(40, 9000), api.OK},
		{"too many rules", ruled(41, 0), api.ErrCount},
		{"too many instructions", ruled(40, 9001), api.ErrCount},
		{"a wrong name ahead of too many instructions", broken, api.ErrCount},
		{"no name", named(""), code.ErrUnit},
		{"a wrong name", named("F", "a.b"), code.ErrUnit},
		{"a long name", named(long("F", 40)), api.OK},
		{"a name that is too long", named(long("F", 41)), code.ErrUnit},
		{"a name twice", named("F", "G", "F"), code.ErrUnit},
		{"names that differ", named("F", "f"), api.OK},
	} {
		if e := code.Check(c.u); e != c.e {
			t.Errorf("Check of %s = %v, want %v", c.name, e, c.e)
		}
		if p, e := code.Program(c.u); c.e != api.OK && (e != c.e || len(p.Functions) != 0) {
			t.Errorf("Program of %s = %v, %v, want %v", c.name, p, e, c.e)
		}
		if n, k, e := code.Copies(c.u); e != c.e || n+k != 0 {
			t.Errorf("Copies of %s = %d, %d, %v, want %v", c.name, n, k, e, c.e)
		}
		if s, e := code.Write(c.u); c.e != api.OK && (e != c.e || s != "") {
			t.Errorf("Write of %s = %q, %v, want %v", c.name, s, e, c.e)
		}
	}
}

// TestCheckOrder has several errors at once.
func TestCheckOrder(t *testing.T) {
	plan := code.Rule{Plan: project.Plan{Ops: []project.Op{{Kind: 9}}}}
	ins := ruleOf(t, "", ")")
	for i, c := range []struct {
		u code.Unit
		e api.Errno
	}{
		{code.Unit{Routines: []code.Routine{{Name: "1", Rules: []code.Rule{plan}}}}, code.ErrUnit},
		{code.Unit{Routines: []code.Routine{{Name: "F", Rules: []code.Rule{plan}}, {Name: "1"}}}, project.ErrPlan},
		{code.Unit{Routines: []code.Routine{{Name: "F"}, {Name: "F", Rules: []code.Rule{plan}}}}, code.ErrUnit},
		{unitOf(ins, plan), code.ErrUnit},
		{unitOf(plan, ins), project.ErrPlan},
	} {
		if e := code.Check(c.u); e != c.e {
			t.Errorf("%d: Check = %v, want %v", i, e, c.e)
		}
	}
}

func TestProgram(t *testing.T) {
	const text = "$ENTRY F { s.1 e.2 = e.2 (s.1) <G s.1>; 'a' (t.1 e.2) t.1 = ; e.1 'b' e.2 = <F <G e.1>> \"x y\" -3; } G { = ; }"
	p, e := code.Program(compiled(t, text))
	if e != api.OK || written(t, p) != written(t, program(t, text)) {
		t.Errorf("Program = %v, %v", p, e)
	}
	if p, e := code.Program(code.Unit{}); e != api.OK || len(p.Functions) != 0 {
		t.Errorf("Program of nothing = %v, %v", p, e)
	}
	var rules [3001]code.Routine
	large := code.Unit{Routines: rules[:100]}
	for i := range large.Routines {
		large.Routines[i] = code.Routine{Name: "F" + long("a", i%10) + long("b", i/10), Rules: slices.Repeat([]code.Rule{ruleOf(t, "", "")}, 31)}
	}
	deep := ruleOf(t, "", long("( ", 101)+long(") ", 101))
	for _, c := range []struct {
		name string
		u    code.Unit
		e    api.Errno
	}{
		{"a routine without rules", code.Unit{Routines: []code.Routine{{Name: "F"}}}, api.ErrCount},
		{"too many rules", large, api.ErrCount},
		{"a result that is too large", unitOf(ruleOf(t, "", long("a ", 4001))), api.ErrCount},
		{"a result that is too deep", unitOf(deep), api.ErrDepth},
		{"a result that is not too large", unitOf(ruleOf(t, "", long("a ", 4000))), api.OK},
		{"brackets that are not too many", unitOf(ruleOf(t, "", long("( ) ", 4000))), api.OK},
	} {
		if e := code.Check(c.u); e != api.OK {
			t.Errorf("Check of %s = %v", c.name, e)
		}
		if p, e := code.Program(c.u); e != c.e || e != api.OK && len(p.Functions) != 0 {
			t.Errorf("Program of %s = %d functions, %v, want %v", c.name, len(p.Functions), e, c.e)
		}
		if s, e := code.Write(c.u); c.e != api.OK && (e != c.e || s != "") {
			t.Errorf("Write of %s = %q, %v, want %v", c.name, s, e, c.e)
		}
	}
}

func TestBuild(t *testing.T) {
	b := []api.Binding{
		{Var: "s.1", Value: parsed(t, "x")},
		{Var: "e.2", Value: parsed(t, "'ab' (c)")},
		{Var: "e.2", Value: parsed(t, "never")},
		{Var: "t.3", Value: parsed(t, "y <F e.1> z")},
		{Var: "e.4"},
	}
	for _, c := range []struct{ build, want string }{
		{"", ""},
		{"e.2 ( +s.1 ) <G s.1 >", "'ab' (c) (x) <G x>"},
		{"+e.2 e.2 e.2 +e.2", "'ab' (c) 'ab' (c) 'ab' (c) 'ab' (c)"},
		{"( t.3 ) e.4 ( e.4 )", "(y <F e.1> z) ()"},
		{"'a' 'b' A -1 <F ( ) <G > >", "'ab' A -1 <F () <G>>"},
	} {
		l, e := code.Build(instructions(t, c.build), b)
		if text, _ := term.Text(l); e != api.OK || text != c.want {
			t.Errorf("Build of %s = %s, %v, want %s", c.build, text, e, c.want)
		}
	}
}

// nested returns groups within each other.
func nested(depth int, l ...api.Term) []api.Term {
	for range depth {
		l = []api.Term{{Kind: api.Group, Kids: l}}
	}
	return l
}

func TestBuildErrors(t *testing.T) {
	chars := slices.Repeat(term.Chars("a"), 10000)
	b := []api.Binding{
		{Var: "e.1", Value: chars},
		{Var: "e.2", Value: nested(50)},
		{Var: "e.3", Value: nested(60000)},
		{Var: "e.4", Value: []api.Term{{Kind: 99, Kids: nested(99)}}},
		{Var: "e.5", Value: chars[:1]},
		{Var: "e.6", Value: chars[:9997]},
		{Var: "x", Value: chars},
	}
	for _, c := range []struct {
		name string
		l    []code.Ins
		e    api.Errno
	}{
		{"as many instructions as may be", instructions(t, long("a ", 9000)), api.OK},
		{"too many instructions", instructions(t, ") "+long("a ", 9000)), api.ErrCount},
		{"a variable without a binding", instructions(t, "e.1 e.9"), api.ErrMissing},
		{"another kind of variable", instructions(t, "s.1"), api.ErrMissing},
		{"one behind a wrong bracket", instructions(t, ") e.9"), code.ErrUnit},
		{"one ahead of a wrong bracket", instructions(t, "e.9 )"), api.ErrMissing},
		{"one ahead of an open bracket", instructions(t, "( e.9"), api.ErrMissing},
		{"no variable, but bound", []code.Ins{{Kind: code.Move, Text: "x"}}, code.ErrUnit},
		{"an open bracket", instructions(t, "<F e.1"), code.ErrUnit},
		{"an open bracket behind much", instructions(t, "e.1 e.1 e.1 ("), code.ErrUnit},
		{"a result that is not too large", instructions(t, "e.1 e.1"), api.OK},
		{"a result that is too large", instructions(t, "e.1 e.5 e.1"), api.ErrLarge},
		{"one with a group", instructions(t, "( e.1 e.1 )"), api.ErrLarge},
		{"groups that are not too large", instructions(t, "( e.6 ) ( e.1 ) <F >"), api.OK},
		{"groups that are too large", instructions(t, "( e.6 ) ( e.1 ) <F > ( )"), api.ErrLarge},
		{"much that is too large", instructions(t, long("+e.1 ", 9000)), api.ErrLarge},
		{"a result that is not too deep", instructions(t, long("( ", 50)+"e.2"+long(" )", 50)), api.OK},
		{"a result that is too deep", instructions(t, long("( ", 51)+"e.2"+long(" )", 51)), api.ErrLarge},
		{"groups that are not too deep", instructions(t, long("<F ", 100)+"e.5"+long(" >", 100)), api.OK},
		{"groups that are too deep", instructions(t, long("<F ", 101)+long(" >", 101)), api.ErrLarge},
		{"a value that is too deep", instructions(t, "e.3"), api.ErrLarge},
		{"a term of no kind with terms", instructions(t, "e.4"), api.OK},
		{"one in a group", instructions(t, "( e.4 )"), api.ErrLarge},
	} {
		l, e := code.Build(c.l, b)
		if e != c.e || e != api.OK && len(l) != 0 {
			t.Errorf("Build of %s = %d terms, %v, want %v", c.name, len(l), e, c.e)
		}
	}
}

func TestCopies(t *testing.T) {
	for _, c := range []struct {
		program       string
		copies, moves int
	}{
		{example, 1, 2},
		{"F { e.1 = ; }", 0, 0},
		{"F { e.1 = e.1 e.1 e.1; e.1 t.2 = (t.2) e.1; } G { s.1 = s.1 <F s.1>; }", 3, 4},
	} {
		copies, moves, e := code.Copies(compiled(t, c.program))
		if e != api.OK || copies != c.copies || moves != c.moves {
			t.Errorf("Copies of %s = %d, %d, %v, want %d, %d", c.program, copies, moves, e, c.copies, c.moves)
		}
	}
	if n, k, e := code.Copies(unitOf(ruleOf(t, "e.1", "+e.1"))); e != code.ErrUnit || n+k != 0 {
		t.Errorf("Copies = %d, %d, %v", n, k, e)
	}
}
