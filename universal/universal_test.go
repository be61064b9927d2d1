package universal

import (
	"hash/crc32"
	"slices"
	"strings"
	"testing"

	"chiasmus/api"
	"chiasmus/check"
	"chiasmus/field"
	"chiasmus/meta"
	"chiasmus/syntax"
	"chiasmus/term"
)

func parsed(t *testing.T, s string) []api.Term {
	t.Helper()
	l, at, e := term.Parse(s)
	if e != api.OK {
		t.Fatalf("Parse(%q) = %d, %v", s, at, e)
	}
	return l
}

func program(t *testing.T, s string) api.Program {
	t.Helper()
	p, at, e := syntax.Program(s)
	if e != api.OK {
		t.Fatalf("Program(%q) = %d, %v", s, at, e)
	}
	return p
}

func text(l []api.Term) string {
	s, e := term.Text(l)
	if e != api.OK {
		return "error " + e.Error()
	}
	return s
}

func same(p, q api.Program) bool {
	return syntax.Equal(syntax.Module{Functions: p.Functions}, syntax.Module{Functions: q.Functions})
}

// TestSource has the text of the chapter by its length, its sum, and some of its lines.
func TestSource(t *testing.T) {
	s := Source()
	if len(s) != 2900 || crc32.ChecksumIEEE([]byte(s)) != 2459087192 || strings.Count(s, "\n") != 68 || !strings.HasSuffix(s, "\n") {
		t.Errorf("the text has %d bytes, the sum %d, %d lines", len(s), crc32.ChecksumIEEE([]byte(s)), strings.Count(s, "\n"))
	}
	lines := strings.Split(s, "\n")
	for i, want := range map[int]string{
		0:  "$ENTRY Run { (e.prog) s.f e.arg = <Call (e.prog) s.f e.arg>; }",
		3:  "  s.f (s.f s.kind e.sentences) e.rest = e.sentences;",
		16: "  ('*S' s.n e.p) (s.x e.v) (e.b) = <Bind (e.p) (e.v) (e.b) s.n s.x <Lookup 'S' s.n e.b>>;",
		67: "Value { (e.x) = e.x; }",
		54: "BindRight {",
	} {
		if lines[i] != want {
			t.Errorf("the line %d is %q, want %q", i, lines[i], want)
		}
	}
	if p := program(t, s); !same(p, Program()) {
		t.Errorf("Program = %v, want %v", Program(), p)
	}
}

// TestItself has P25.4.
func TestItself(t *testing.T) {
	p := Program()
	if _, e := check.Program(p); e != api.OK || !check.Core(p) || !check.Pure(p) || !check.Strict(p) || len(p.Functions) != 14 {
		t.Errorf("the universal program has %d functions, %v, core: %v, pure: %v, strict: %v", len(p.Functions), e, check.Core(p), check.Pure(p), check.Strict(p))
	}
	v, e := meta.Program(p)
	if e != api.OK || term.Value(v) != api.OK {
		t.Fatalf("its metacode = %v", e)
	}
	if q, e := meta.Read(v); e != api.OK || !same(p, q) {
		t.Errorf("Read of its metacode = %v, %v", q, e)
	}
}

const swap = "$ENTRY F { s.x e.y = e.y s.x; } G { e.1 = <F e.1> (<H '*' e.1>); } H { '*' e.1 s.2 = <G e.1>; e.1 = e.1; }"

func TestInput(t *testing.T) {
	p := program(t, "F { s.x = '*'; } $ENTRY G { e.1 = (<F e.1>); = ; }")
	const code = "(F LOCAL (('*S' x) ('*V'))) (G ENTRY (('*E' \"1\") (('*' (F '*E' \"1\")))) (() ()))"
	for _, c := range []struct{ name, arg, want string }{
		{"F", "", "<Run (" + code + ") F>"},
		{"G", "A ('*') -1", "<Run (" + code + ") G A ('*') -1>"},
	} {
		l, e := Input(p, c.name, parsed(t, c.arg))
		if text(l) != c.want || e != api.OK {
			t.Errorf("Input of <%s %s> = %s, %v, want %s", c.name, c.arg, text(l), e, c.want)
		}
		if term.Result(l) != api.OK {
			t.Errorf("Input of <%s %s> has the error %v", c.name, c.arg, term.Result(l))
		}
	}
}

// call of a function, and what its error is.
type faulty struct {
	p    api.Program
	name string
	arg  []api.Term
	want api.Errno
}

func nested(depth int) []api.Term {
	var l []api.Term
	for range depth {
		l = []api.Term{{Kind: api.Group, Kids: l}}
	}
	return l
}

// faulties are calls with errors, each ahead of those of the next ones.
func faulties(t *testing.T) map[string]faulty {
	large := make([]api.Term, 4001)
	return map[string]faulty{
		"a wrong program":      {api.Program{Functions: []api.Function{{Name: "F"}}}, "G", large, api.ErrCount},
		"an unbound variable":  {api.Program{Functions: []api.Function{{Name: "F", Sentences: []api.Sentence{{Right: parsed(t, "s.1")}}}}}, "F", nil, check.ErrUnbound},
		"conditions":           {program(t, "F { e.1 A e.2, e.1 : A = <H>; }"), "G", large, api.ErrCore},
		"a block":              {program(t, "F { e.1, e.1 : { = ; }; }"), "F", nil, api.ErrCore},
		"another function":     {program(t, "F { e.1 A e.2 = <Add>; }"), "G", large, api.ErrPure},
		"a choice":             {program(t, "F { e.1 A e.2 = ; }"), "G", large, api.ErrStrict},
		"no function":          {program(t, "F { = ; }"), "G", large, api.ErrMissing},
		"no name":              {program(t, "F { = ; }"), "", large, api.ErrMissing},
		"a large argument":     {program(t, "F { = ; }"), "F", large, api.ErrCount},
		"a deep argument":      {program(t, "F { = ; }"), "F", nested(101), api.ErrDepth},
		"a variable":           {program(t, "F { = ; }"), "F", parsed(t, "s.1"), api.ErrForm},
		"a call":               {program(t, "F { = ; }"), "F", parsed(t, "<F>"), api.ErrForm},
		"no functions":         {api.Program{}, "F", nil, api.ErrMissing},
		"a built-in function":  {program(t, "F { = ; }"), "Add", parsed(t, "1 2"), api.ErrMissing},
		"a program of no text": {api.Program{Functions: []api.Function{{Name: "1"}}}, "1", nil, check.ErrName},
	}
}

func TestErrors(t *testing.T) {
	for name, c := range faulties(t) {
		if l, e := Input(c.p, c.name, c.arg); len(l) > 0 || e != c.want {
			t.Errorf("Input of %s = %v, %v, want %v", name, l, e, c.want)
		}
		for _, fuel := range []int{10, -1} {
			if s, n, e := Run(c.p, c.name, c.arg, fuel); len(s.Field) > 0 || s.Steps != 0 || n != 0 || e != c.want {
				t.Errorf("Run of %s = %v, %d, %v, want %v", name, s, n, e, c.want)
			}
		}
		for levels := -1; levels <= 5; levels++ {
			want := c.want
			if levels < 0 || levels > 4 {
				want = api.ErrRange
			}
			if l, e := Tower(c.p, c.name, c.arg, levels); len(l) > 0 || e != want {
				t.Errorf("Tower of %s = %v, %v, want %v", name, l, e, want)
			}
			for _, fuel := range []int{-1, 0, 100000, 100001} {
				want := want
				if fuel < 0 || fuel > 100000 {
					want = api.ErrRange
				}
				if l, e := Steps(c.p, c.name, c.arg, levels, fuel); len(l) > 0 || e != want {
					t.Errorf("Steps of %s = %v, %v, want %v", name, l, e, want)
				}
			}
		}
	}
	p := program(t, swap)
	for _, fuel := range []int{-1, 100001} {
		if s, n, e := Run(p, "F", nil, fuel); len(s.Field) > 0 || n != 0 || e != api.ErrRange {
			t.Errorf("Run with %d = %v, %d, %v, want ErrRange", fuel, s, n, e)
		}
	}
}

func TestInputLimits(t *testing.T) {
	p := program(t, "F { e.1 = ; }")
	code, _ := meta.Program(p)
	nodes, _ := term.Size(code)
	room := 4000 - nodes - 3 // the call, the brackets, and the name
	for _, c := range []struct {
		arg  []api.Term
		want api.Errno
	}{
		{slices.Repeat(parsed(t, "A"), room), api.OK},
		{slices.Repeat(parsed(t, "A"), room+1), api.ErrLarge},
		{slices.Repeat(parsed(t, "A"), 4000), api.ErrLarge},
		{nested(99), api.OK},
		{nested(100), api.ErrDepth},
		{append(nested(100), slices.Repeat(parsed(t, "A"), room-99)...), api.ErrLarge},
	} {
		l, e := Input(p, "F", c.arg)
		if e != c.want || (len(l) > 0) != (e == api.OK) || term.Result(l) != api.OK {
			t.Errorf("Input of %d terms = %v, want %v", len(c.arg), e, c.want)
		}
	}
	// metacode is deeper than the program, and larger
	deep := func(depth int) api.Program {
		return api.Program{Functions: []api.Function{{Name: "F", Sentences: []api.Sentence{{Right: nested(depth)}}}}}
	}
	for depth, want := range map[int]api.Errno{95: api.OK, 96: api.ErrDepth, 98: api.ErrDepth} {
		if _, e := Input(deep(depth), "F", nil); e != want {
			t.Errorf("Input of a program with %d brackets = %v, want %v", depth, e, want)
		}
	}
	large := program(t, "F { = '"+strings.Repeat("*", 2000)+"'; }")
	if _, e := Input(large, "F", nil); e != api.ErrLarge {
		t.Errorf("Input of a large program = %v, want ErrLarge", e)
	}
}

// slow makes the steps one by one, and counts those of Call.
func slow(t *testing.T, p api.Program, name string, arg []api.Term, fuel int) (api.State, int, api.Errno) {
	t.Helper()
	input, e := Input(p, name, arg)
	if e != api.OK {
		t.Fatalf("Input = %v", e)
	}
	s, n := api.State{Field: input}, 0
	for range fuel {
		path, ok := field.Active(s.Field)
		if !ok {
			return s, n, api.OK
		}
		active, _ := term.At(s.Field, path)
		next, e := field.Step(Program(), s)
		if e != api.OK {
			return s, n, e
		}
		if active.Text == "Call" {
			n++
		}
		s = next
	}
	if term.Calls(s.Field) {
		return s, n, api.ErrFuel
	}
	return s, n, api.OK
}

func TestRun(t *testing.T) {
	p := program(t, swap)
	for _, c := range []struct {
		name, arg string
		fuel      int
		want      string // the value
		count     int
		code      api.Errno
	}{
		{"F", "A B", 100, "B A", 1, api.OK},
		{"F", "A B", 18, "B A", 1, api.OK},
		{"F", "A B", 17, "", 1, api.ErrFuel},
		{"F", "A B", 1, "", 0, api.ErrFuel},
		{"F", "A B", 2, "", 1, api.ErrFuel},
		{"F", "A B", 0, "", 0, api.ErrFuel},
		{"F", "", 100, "", 1, api.ErrRecognition},
		{"F", "() A", 100, "", 1, api.ErrRecognition},
		{"H", "'*' A '*'", 1000, "", 0, api.ErrRecognition},
		{"H", "A '*' ('*')", 1000, "A '*' ('*')", 1, api.OK},
		{"H", "'*'", 1000, "'*'", 1, api.OK},
	} {
		s, n, e := Run(p, c.name, parsed(t, c.arg), c.fuel)
		if c.name == "H" && c.code != api.OK {
			c.count = n
		}
		if e != c.code || n != c.count || e == api.OK && text(s.Field) != c.want || len(s.Store.Buried)+len(s.Store.Output) > 0 {
			t.Errorf("Run of <%s %s> with %d = %s, %d, %v, want %s, %d, %v", c.name, c.arg, c.fuel, text(s.Field), n, e, c.want, c.count, c.code)
		}
		state, count, code := slow(t, p, c.name, parsed(t, c.arg), c.fuel)
		if e != code || n != count || s.Steps != state.Steps || !term.Equal(s.Field, state.Field) {
			t.Errorf("Run of <%s %s> with %d = %d, %d, %v, but step by step it is %d, %d, %v", c.name, c.arg, c.fuel, s.Steps, n, e, state.Steps, count, code)
		}
	}
}

// A step of Call that is too deep or has too large an argument is none, though its function may have been asked.
func TestCountsStepsThatAreMade(t *testing.T) {
	large := program(t, "F { e.1 = <F e.1 e.1 e.1 e.1 e.1 e.1 e.1 e.1 e.1 e.1>; } G { = '"+strings.Repeat("a", 3000)+"'; }")
	for name, c := range map[string]struct {
		p     api.Program
		arg   []api.Term
		count int
		last  string // the function whose step is not made
	}{
		"too deep":  {program(t, swap), nested(99), 0, "Call"},
		"too large": {large, parsed(t, "A"), 3, "Call"},
	} {
		got, n, e := Run(c.p, "F", c.arg, 500)
		state, count, code := slow(t, c.p, "F", c.arg, 500)
		if e != api.ErrLarge || code != e || n != count || got.Steps != state.Steps || !term.Equal(got.Field, state.Field) {
			t.Errorf("%s: Run = %d, %d, %v, but step by step it is %d, %d, %v", name, got.Steps, n, e, state.Steps, count, code)
		}
		path, _ := field.Active(got.Field)
		if active, _ := term.At(got.Field, path); active.Text != c.last || n != c.count {
			t.Errorf("%s: Run counts %d steps, and ends at %s, want %d, %s", name, n, active.Text, c.count, c.last)
		}
	}
}

func TestTower(t *testing.T) {
	p := program(t, swap)
	arg := parsed(t, "A '*'")
	want := []api.Term{{Kind: api.Call, Text: "F", Kids: arg}}
	q, name := p, "F"
	for levels := range 3 {
		l, e := Tower(p, "F", arg, levels)
		if e != api.OK || !term.Equal(l, want) {
			t.Fatalf("Tower of %d levels = %s, %v, want %s", levels, text(l), e, text(want))
		}
		if want, e = Input(q, name, want[0].Kids); e != api.OK {
			t.Fatalf("Input = %v", e)
		}
		q, name = Program(), "Run"
	}
	if l, e := Tower(p, "F", arg, 3); len(l) > 0 && e == api.OK && len(l[0].Kids) == 0 {
		t.Errorf("Tower of 3 levels = %v, %v", l, e)
	}
	if l, e := Tower(p, "F", arg, 4); len(l) > 0 || e != api.ErrLarge {
		t.Errorf("Tower of 4 levels = %v, %v, want ErrLarge", l, e)
	}
	many := slices.Repeat(parsed(t, "A"), 4000)
	if l, e := Tower(p, "F", many, 0); len(l) != 1 || len(l[0].Kids) != 4000 || e != api.OK {
		t.Errorf("Tower of a large argument = %d, %v", len(l), e)
	}
	if l, e := Tower(p, "F", many, 1); len(l) > 0 || e != api.ErrLarge {
		t.Errorf("Tower of a large argument = %d, %v, want ErrLarge", len(l), e)
	}
	// it shares no memory with the argument
	l, _ := Tower(p, "F", arg, 0)
	arg[0].Text = "B"
	if text(l) != "<F A '*'>" {
		t.Errorf("the tower became %s", text(l))
	}
}

// TestSteps has P25.5, too.
func TestSteps(t *testing.T) {
	p := program(t, "F { s.x e.y = e.y s.x; } G { = <F>; }")
	arg := parsed(t, "A B")
	for _, c := range []struct {
		levels, fuel int
		want         []int
		code         api.Errno
	}{
		{0, 1, []int{1}, api.OK},
		{0, 0, nil, api.ErrFuel},
		{1, 18, []int{1, 18}, api.OK},
		{1, 17, nil, api.ErrFuel},
		{1, 0, nil, api.ErrFuel},
		{2, 2000, []int{1, 18, 1013}, api.OK},
		{2, 1012, nil, api.ErrFuel},
		{3, 17, nil, api.ErrFuel}, // ahead of what comes at the next levels
		{4, 1013, nil, api.ErrLarge},
	} {
		l, e := Steps(p, "F", arg, c.levels, c.fuel)
		if !slices.Equal(l, c.want) || e != c.code {
			t.Errorf("Steps of %d levels with %d = %v, %v, want %v, %v", c.levels, c.fuel, l, e, c.want, c.code)
		}
	}
	for levels := range 3 {
		if l, e := Steps(p, "G", nil, levels, 2000); len(l) > 0 || e != api.ErrRecognition {
			t.Errorf("Steps of a failure = %v, %v, want ErrRecognition", l, e)
		}
	}
	var values []string
	for levels := range 3 {
		call, e := Tower(p, "F", arg, levels)
		if e != api.OK {
			t.Fatalf("Tower = %v", e)
		}
		q := Program()
		if levels == 0 {
			q = p
		}
		v, steps, e := field.Value(q, call, 2000)
		if want := []int{1, 18, 1013}[levels]; e != api.OK || steps != want {
			t.Fatalf("the level %d ends behind %d steps, %v, want %d", levels, steps, e, want)
		}
		values = append(values, text(v))
	}
	if !slices.Equal(values, []string{"B A", "B A", "B A"}) {
		t.Errorf("the values are %v", values)
	}
	many := slices.Repeat(parsed(t, "A"), 4000)
	if l, e := Steps(p, "F", many, 0, 1); !slices.Equal(l, []int{1}) || e != api.OK {
		t.Errorf("Steps of a large argument = %v, %v", l, e)
	}
	if l, e := Steps(p, "F", many, 1, 0); len(l) > 0 || e != api.ErrFuel {
		t.Errorf("Steps of a large argument without fuel = %v, %v", l, e)
	}
	if l, e := Steps(p, "F", many, 1, 1); len(l) > 0 || e != api.ErrLarge {
		t.Errorf("Steps of a large argument = %v, %v", l, e)
	}
}
