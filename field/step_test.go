package field_test

import (
	"slices"
	"testing"

	"chiasmus/api"
	"chiasmus/builtin"
	"chiasmus/check"
	"chiasmus/field"
	"chiasmus/term"
)

// steps has programs, fields, and what a step makes of them.
var steps = []struct {
	program, field, want string
	sentence             int
	bindings             string // the variables of the match, with their values
	e                    api.Errno
}{
	{example, "<F 'aa'>", "'b' <F 'a'>", 0, "e.1['a']", 0},
	{example, "'b' <F 'a'>", "'bb' <F >", 0, "e.1[]", 0},
	{example, "'bb' <F>", "'bb'", 1, "", 0},
	{example, "'bb'", "", 0, "", api.ErrClosed},
	{example, "", "", 0, "", api.ErrClosed},
	{example, "<F 'c'>", "", 0, "", api.ErrRecognition},
	{example, "(<F <F 'a'>>) <F>", "(<F 'b' <F>>) <F>", 0, "e.1[]", 0},
	{example, "x (y <F> z) <F 'c'>", "x (y z) <F 'c'>", 1, "", 0},
	{example, "<Nothing 'a'>", "", 0, "", api.ErrUndefined},
	{example, "<F <Nothing>>", "", 0, "", api.ErrUndefined},
	{example, "<Add 1 2>", "3", -1, "", 0},
	{example, "(<F> <Add 1 2>)", "(<Add 1 2>)", 1, "", 0},
	{example, "<Add 1 x>", "", -1, "", api.ErrBuiltin},
	{example, "<Mu F 'a'>", "<F 'a'>", -1, "", 0},
	{example, "<Dn '*' (F 'a')>", "<F 'a'>", -1, "", 0},
	{example, "<First 2 'abc'> <F>", "('ab') 'c' <F>", -1, "", 0},
	{"Add { e.1 = e.1 e.1; }", "<Add 1 2>", "1 2 1 2", 0, "e.1[1 2]", 0},
	{"Add { 1 = 2; }", "<Add 1 2>", "", 0, "", api.ErrRecognition},
	{"F { e.1 s.2 e.3 = (e.1) (s.2) (e.3); }", "<F 'ab'>", "() ('a') ('b')", 0, "e.1[] s.2['a'] e.3['b']", 0},
	{"F { s.1 s.1 = same; s.1 s.2 = (s.2 s.1); e.1 = e.1; }", "<F 'ab'>", "('ba')", 1, "s.1['a'] s.2['b']", 0},
	{"F { s.1 s.1 = same; s.1 s.2 = (s.2 s.1); e.1 = e.1; }", "<F (x)>", "(x)", 2, "e.1[(x)]", 0},
	{"F { e.1 = <G <G e.1>> <F>; }", "a <F b>", "a <G <G b>> <F>", 0, "e.1[b]", 0},
}

func bindingsText(l []api.Binding) string {
	s := ""
	for i, b := range l {
		if i > 0 {
			s += " "
		}
		s += b.Var + "[" + text(b.Value) + "]"
	}
	return s
}

func TestStep(t *testing.T) {
	for _, c := range steps {
		p, s := program(t, c.program), state(t, c.field)
		s.Steps = 7
		next, e := field.Step(p, s)
		if e != c.e || !term.Equal(next.Field, parsed(t, c.want)) {
			t.Errorf("Step of %s = %s, %v, want %s, %v", c.field, text(next.Field), e, c.want, c.e)
		}
		if e != api.OK && !isZero(next) || e == api.OK && next.Steps != 8 {
			t.Errorf("Step of %s = %v, %v", c.field, next, e)
		}
		number, bindings, e := field.Sentence(p, s)
		want := c.e
		if c.e == api.ErrBuiltin {
			want = api.OK
		}
		if number != c.sentence || bindingsText(bindings) != c.bindings || e != want {
			t.Errorf("Sentence of %s = %d, %s, %v, want %d, %s, %v", c.field, number, bindingsText(bindings), e, c.sentence, c.bindings, want)
		}
		if text(s.Field) != text(parsed(t, c.field)) || s.Steps != 7 {
			t.Errorf("the state with %s has changed", c.field)
		}
	}
}

func TestStore(t *testing.T) {
	p := program(t, "F { = <Br 'k=1'> <Prout x> <Cp 'k'> <Add 1 1> <Dg 'k'> <G>; } G { = <Dg 'k'>; }")
	s, e := field.Start(p, parsed(t, "<F>"))
	for i, want := range []string{
		"", "'k'['1']", "'k'['1'] |x", "'k'['1'] |x", "'k'['1'] |x", "|x", "|x", "|x",
	} {
		s, e = field.Step(p, s)
		got := ""
		for _, b := range s.Store.Buried {
			got += text(b.Key) + "[" + text(b.Value) + "] "
		}
		for _, line := range s.Store.Output {
			got += "|" + line
		}
		if e != api.OK || got != want && got != want+" " || s.Steps != i+1 {
			t.Errorf("behind %d steps the store is %s, %v, want %s", i+1, got, e, want)
		}
	}
	if text(s.Field) != "'1' 2 '1'" {
		t.Errorf("the field is %s", text(s.Field))
	}
}

// limit has steps at the limits; the state behind each is asked for as its number of terms and its depth.
func TestStepLimits(t *testing.T) {
	p := program(t, "F { e.1 = e.1 e.1; } G { e.1 = (e.1); } H { = ; } K { 'a' = ; }")
	deep := func(depth int, name string) []api.Term { return nested(depth-1, call(name)) }
	for _, c := range []struct {
		name         string
		field        []api.Term
		steps        int
		nodes, depth int
		e            api.Errno
	}{
		{"a result larger than an expression", []api.Term{call("F", chars(4000)...)}, 0, 8000, 0, 0},
		{"an argument that is too large", []api.Term{call("F", chars(4001)...)}, 0, 0, 0, api.ErrLarge},
		{"a large one of a function that there is not", []api.Term{call("X", chars(4001)...)}, 0, 0, 0, api.ErrLarge},
		{"a large one that no sentence takes", []api.Term{call("K", chars(4001)...)}, 0, 0, 0, api.ErrLarge},
		{"a large one in groups", []api.Term{call("H", nested(1, chars(4000)...)...)}, 0, 0, 0, api.ErrLarge},
		{"a large one of a built-in function", []api.Term{call("Lenw", chars(4001)...)}, 0, 0, 0, api.ErrLarge},
		{"one that is not too large", []api.Term{call("K", chars(4000)...)}, 0, 0, 0, api.ErrRecognition},
		{"a field that is not too large", append(chars(12000), call("F", chars(4000)...)), 0, 20000, 0, 0},
		{"a field that is too large", append(chars(12001), call("F", chars(4000)...)), 0, 0, 0, api.ErrLarge},
		{"one too large behind the call", append([]api.Term{call("F", chars(4000)...)}, chars(12001)...), 0, 0, 0, api.ErrLarge},
		{"a full field", append(chars(19999), call("H")), 0, 19999, 0, 0},
		{"a full field that stays full", append(chars(19999), call("G")), 0, 20000, 1, 0},
		{"a result that is deeper", deep(100, "G"), 0, 100, 100, 0},
		{"a result that is too deep", nested(99, call("G", nested(0, chars(1)...)...)), 0, 101, 100, 0},
		{"groups that are too deep", nested(98, call("G", nested(1)...)), 0, 100, 100, 0},
		{"a call deep within calls", nested(97, call("H", call("G", nested(1)...))), 0, 100, 100, 0},
		{"many steps", []api.Term{call("H")}, 999999999, 0, 0, 0},
		{"too many steps", []api.Term{call("H")}, 1000000000, 0, 0, api.ErrRange},
		{"too many steps without a call", chars(1), 1000000000, 0, 0, api.ErrClosed},
		{"too many steps that no sentence takes", []api.Term{call("K")}, 1000000000, 0, 0, api.ErrRecognition},
		{"too many steps, and a large field", append(chars(12001), call("F", chars(4000)...)), 1000000000, 0, 0, api.ErrLarge},
	} {
		s, e := field.Step(p, api.State{Field: c.field, Steps: c.steps})
		nodes, depth := term.Size(s.Field)
		if e != c.e || nodes != c.nodes || depth != c.depth {
			t.Errorf("%s: Step = %d terms, %d deep, %v, want %d, %d, %v", c.name, nodes, depth, e, c.nodes, c.depth, c.e)
		}
		if e != api.OK && !isZero(s) || e == api.OK && (s.Steps != c.steps+1 || field.Check(s) != api.OK) {
			t.Errorf("%s: Step = %d steps, %v", c.name, s.Steps, e)
		}
	}
}

// TestTooDeep replaces calls by what is deeper than they were.
func TestTooDeep(t *testing.T) {
	p := program(t, "F { e.1 = ((e.1)); } G { e.1 = <G (e.1)>; }")
	for depth := 90; depth <= 100; depth++ {
		s, e := field.Step(p, api.State{Field: nested(depth-1, call("F"))})
		want := api.OK
		if depth+1 > 100 {
			want = api.ErrLarge
		}
		if e != want || e != api.OK && !isZero(s) {
			t.Errorf("a call at the depth %d: %v", depth, e)
		}
	}
	s, e := field.Run(p, state(t, "<G>"), 1000)
	if e != api.ErrLarge || s.Steps != 99 || field.Check(s) != api.OK {
		t.Errorf("Run = %d steps, %v", s.Steps, e)
	}
	// what built-in functions return is not deeper than the call with its argument
	for _, c := range []struct {
		around int
		call   string
	}{{99, "<First 0 'a'>"}, {98, "<First 1 (a)>"}, {99, "<Up '*'>"}, {98, "<Dn '*' (F)>"}, {98, "<Mu F (a)>"}} {
		s, e := field.Step(p, api.State{Field: nested(c.around, parsed(t, c.call)...)})
		if _, depth := term.Size(s.Field); e != api.OK || depth > 100 || depth < 99 {
			t.Errorf("Step of %s = %d deep, %v", c.call, depth, e)
		}
	}
}

// TestBuiltinErrors has those of the store, and of results.
func TestBuiltinErrors(t *testing.T) {
	full := api.Store{Buried: make([]api.Buried, 200), Output: make([]string, 200)}
	for _, c := range []struct {
		field []api.Term
		e     api.Errno
	}{
		{parsed(t, "<Br 'a=b'>"), api.ErrLarge},
		{parsed(t, "<Br 'ab'>"), api.ErrBuiltin},
		{parsed(t, "<Prout a>"), api.ErrLarge},
		{parsed(t, "<Cp>"), api.OK},
		{parsed(t, "<Div 1 0>"), api.ErrBuiltin},
		{parsed(t, "<Mul "+long("9", 500)+" 10>"), api.ErrLarge},
		{[]api.Term{call("Type", chars(4000)...)}, api.ErrLarge},
		{[]api.Term{call("Type", chars(3999)...)}, api.OK},
	} {
		s, e := field.Step(api.Program{}, api.State{Field: c.field, Store: full})
		if e != c.e || e != api.OK && !isZero(s) {
			t.Errorf("Step of %s = %v, %v, want %v", text(c.field), s, e, c.e)
		}
	}
}

func TestArgumentErrors(t *testing.T) {
	right, p := state(t, "<F 'a'>"), program(t, example)
	for _, c := range []struct {
		name string
		p    api.Program
		s    api.State
		fuel int
		want api.Errno
	}{
		{"a wrong program", faulty, notRight, -1, check.ErrName},
		{"an unbound variable", unbound, notRight, -1, check.ErrUnbound},
		{"a program with a condition", notCore(t), notRight, -1, api.ErrCore},
		{"a state that is not right", p, notRight, -1, field.ErrState},
		{"a field that is too large", p, api.State{Field: chars(20001)}, -1, field.ErrState},
		{"a store that is not right", p, api.State{Store: api.Store{Output: make([]string, 201)}}, 100001, field.ErrState},
	} {
		if s, e := field.Step(c.p, c.s); e != c.want || !isZero(s) {
			t.Errorf("%s: Step = %v, %v, want %v", c.name, s, e, c.want)
		}
		if i, l, e := field.Sentence(c.p, c.s); e != c.want || i != 0 || len(l) != 0 {
			t.Errorf("%s: Sentence = %d, %v, %v, want %v", c.name, i, l, e, c.want)
		}
		if s, e := field.Run(c.p, c.s, c.fuel); e != c.want || !isZero(s) {
			t.Errorf("%s: Run = %v, %v, want %v", c.name, s, e, c.want)
		}
	}
	for _, fuel := range []int{-1, 100001, -1 << 62, 1 << 62} {
		if s, e := field.Run(p, right, fuel); e != api.ErrRange || !isZero(s) {
			t.Errorf("Run with the fuel %d = %v, %v", fuel, s, e)
		}
		if l, n, e := field.Value(p, right.Field, fuel); e != api.ErrRange || len(l) != 0 || n != 0 {
			t.Errorf("Value with the fuel %d = %v, %d, %v", fuel, l, n, e)
		}
	}
	if l, n, e := field.Value(faulty, wrong, -1); e != check.ErrName || len(l) != 0 || n != 0 {
		t.Errorf("Value = %v, %d, %v", l, n, e)
	}
	if l, n, e := field.Value(p, wrong, -1); e != api.ErrForm || len(l) != 0 || n != 0 {
		t.Errorf("Value = %v, %d, %v", l, n, e)
	}
}

func TestRun(t *testing.T) {
	const loop = "F { = <F>; } G { e.1 = <F> <Nothing>; } H { 'a' e.1 = 'b' <H e.1>; } K { = <Prout a> <Add>; }"
	for _, c := range []struct {
		program, field string
		fuel           int
		want           string
		steps          int
		e              api.Errno
	}{
		{example, "<F 'aa'>", 3, "'bb'", 3, 0},
		{example, "<F 'aa'>", 100000, "'bb'", 3, 0},
		{example, "<F 'aa'>", 2, "'bb' <F>", 2, api.ErrFuel},
		{example, "<F 'aa'>", 0, "<F 'aa'>", 0, api.ErrFuel},
		{example, "'aa'", 0, "'aa'", 0, 0},
		{example, "<F 'aac'>", 9, "'bb' <F 'c'>", 2, api.ErrRecognition},
		{example, "<F 'aac'>", 2, "'bb' <F 'c'>", 2, api.ErrFuel},
		{example, "<F 'c'>", 0, "<F 'c'>", 0, api.ErrFuel},
		{example, "<Nothing>", 0, "<Nothing>", 0, api.ErrFuel},
		{example, "<F> (<Nothing>) <F>", 9, "(<Nothing>) <F>", 1, api.ErrUndefined},
		{loop, "<F>", 100000, "<F>", 100000, api.ErrFuel},
		{loop, "<K>", 9, "<Add>", 2, api.ErrBuiltin},
		{loop, "<H 'aab'> <F>", 9, "'bb' <H 'b'> <F>", 2, api.ErrRecognition},
		{loop, "<G>", 1, "<F> <Nothing>", 1, api.ErrFuel},
	} {
		p, s := program(t, c.program), state(t, c.field)
		got, e := field.Run(p, s, c.fuel)
		if e != c.e || !term.Equal(got.Field, parsed(t, c.want)) || got.Steps != c.steps {
			t.Errorf("Run of %s with %d = %s, %d, %v, want %s, %d, %v", c.field, c.fuel, text(got.Field), got.Steps, e, c.want, c.steps, c.e)
		}
		l, n, e := field.Value(p, s.Field, c.fuel)
		if c.e == api.OK {
			if e != c.e || !term.Equal(l, got.Field) || n != c.steps {
				t.Errorf("Value of %s with %d = %s, %d, %v", c.field, c.fuel, text(l), n, e)
			}
		} else if e != c.e || len(l) != 0 || n != 0 {
			t.Errorf("Value of %s with %d = %s, %d, %v", c.field, c.fuel, text(l), n, e)
		}
		s.Steps = 1000
		if again, _ := field.Run(p, s, c.fuel); again.Steps != 1000+c.steps {
			t.Errorf("Run of %s from the step 1000 ends at %d", c.field, again.Steps)
		}
	}
}

// TestRunStore has the store behind the steps that were made, also with an error.
func TestRunStore(t *testing.T) {
	p := program(t, "F { = <Prout a> <Br 'k=v'> <Prout b> <Add>; }")
	s, e := field.Run(p, state(t, "<F>"), 100)
	if e != api.ErrBuiltin || s.Steps != 4 || text(s.Field) != "<Add>" || !slices.Equal(s.Store.Output, []string{"a", "b"}) {
		t.Errorf("Run = %v, %v", s, e)
	}
	if l, e := builtin.Get(s.Store, term.Chars("k")); e != api.OK || len(l) != 1 || text(l[0]) != "'v'" {
		t.Errorf("the store is %v", s.Store)
	}
	begin := api.State{Field: parsed(t, "<Dg 'k'> <Cp 'k'>"), Store: s.Store}
	if s, e := field.Run(p, begin, 100); e != api.OK || text(s.Field) != "'v'" || len(s.Store.Buried) != 0 {
		t.Errorf("Run = %v, %v", s, e)
	}
	if len(begin.Store.Buried) != 1 || begin.Steps != 0 || text(begin.Field) != "<Dg 'k'> <Cp 'k'>" {
		t.Error("the state has changed")
	}
	// the last line does not fit, and the field is too large behind it
	full := api.State{Field: parsed(t, "<Prout a>"), Store: api.Store{Output: make([]string, 199)}}
	if s, e := field.Run(p, full, 1); e != api.OK || len(s.Store.Output) != 200 {
		t.Errorf("Run = %d lines, %v", len(s.Store.Output), e)
	}
	late := api.State{Field: parsed(t, "<Prout a>"), Steps: 1000000000}
	if s, e := field.Run(p, late, 1); e != api.ErrRange || len(s.Store.Output) != 0 || text(s.Field) != "<Prout a>" || s.Steps != 1000000000 {
		t.Errorf("Run = %v, %v", s, e)
	}
}

// TestLongRuns has runs up to the limits.
func TestLongRuns(t *testing.T) {
	p := program(t, "F { = 'a' <F>; } G { = <G> 'a'; } H { = <H <H>>; } K { = <K> <K>; }")
	for _, c := range []struct {
		name         string
		steps, nodes int
	}{{"F", 19999, 20000}, {"G", 19999, 20000}, {"H", 99, 100}, {"K", 19999, 20000}} {
		s, e := field.Run(p, api.State{Field: []api.Term{call(c.name)}}, 100000)
		nodes, _ := term.Size(s.Field)
		if e != api.ErrLarge || s.Steps != c.steps || nodes != c.nodes {
			t.Errorf("%s: Run = %d terms behind %d steps, %v, want %d, %d", c.name, nodes, s.Steps, e, c.nodes, c.steps)
		}
	}
}
