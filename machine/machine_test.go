package machine

import (
	"slices"
	"strings"
	"testing"

	"chiasmus/api"
	"chiasmus/check"
	"chiasmus/code"
	"chiasmus/field"
	"chiasmus/project"
	"chiasmus/store"
	"chiasmus/syntax"
	"chiasmus/term"
)

var long = strings.Repeat

func parsed(t testing.TB, s string) []api.Term {
	t.Helper()
	l, at, e := term.Parse(s)
	if e != api.OK {
		t.Fatalf("Parse(%q) = %d, %v", s, at, e)
	}
	return l
}

func program(t testing.TB, s string) api.Program {
	t.Helper()
	p, at, e := syntax.Program(s)
	if e != api.OK {
		t.Fatalf("Program(%q) = %d, %v", s, at, e)
	}
	return p
}

func unit(t testing.TB, s string) code.Unit {
	t.Helper()
	u, e := code.Compile(program(t, s))
	if e != api.OK {
		t.Fatalf("Compile(%q) = %v", s, e)
	}
	return u
}

// loaded returns a machine with so many cells.
func loaded(t testing.TB, program string, e []api.Term, cells int) *Machine {
	t.Helper()
	m, errno := Load(unit(t, program), e, cells)
	if errno != api.OK {
		t.Fatalf("Load = %v", errno)
	}
	return m
}

func text(l []api.Term) string {
	s, e := term.Text(l)
	if e != api.OK {
		return "error " + e.Error()
	}
	return s
}

func isZero(s api.State) bool {
	return len(s.Field) == 0 && len(s.Store.Buried) == 0 && len(s.Store.Output) == 0 && s.Steps == 0
}

func same(a, b api.State) bool {
	return a.Steps == b.Steps && term.Equal(a.Field, b.Field) && slices.Equal(a.Store.Output, b.Store.Output) &&
		slices.EqualFunc(a.Store.Buried, b.Store.Buried, func(x, y api.Buried) bool {
			return term.Equal(x.Key, y.Key) && term.Equal(x.Value, y.Value)
		})
}

func chars(n int) []api.Term { return slices.Repeat(term.Chars("a"), n) }

func call(name string, l ...api.Term) api.Term {
	return api.Term{Kind: api.Call, Text: name, Kids: l}
}

// nested returns groups within each other, and an expression in the innermost one.
func nested(depth int, l ...api.Term) []api.Term {
	for range depth {
		l = []api.Term{{Kind: api.Group, Kids: l}}
	}
	return l
}

const example = "F { 'a' e.1 = 'b' <F e.1>; = ; }"

// checkHeap fails, if the links of the heap are wrong, or it has handles that no piece has.
func checkHeap(t *testing.T, m *Machine) {
	t.Helper()
	pieces := 0
	var count func(b *bracket)
	count = func(b *bracket) {
		for _, p := range slices.Concat(b.done, b.rest) {
			if p.inner != nil {
				count(p.inner)
			} else {
				pieces++
			}
		}
	}
	for b := m.active; b != nil; b = b.around {
		count(b)
	}
	if n := len(m.heap.cells.Handles()); !m.heap.cells.Check() || n != pieces {
		t.Errorf("the heap has %d handles of %d pieces", n, pieces)
	}
	if _, live := m.heap.cells.Used(); live > m.cells {
		t.Errorf("the heap has %d cells, and the view field %d", live, m.cells)
	}
}

func TestExample(t *testing.T) {
	m := loaded(t, example, parsed(t, "<F 'aa'>"), store.MaxCells)
	for i, want := range []struct {
		field     string
		now, most int
	}{{"<F 'aa'>", 4, 4}, {"'b' <F 'a'>", 4, 4}, {"'bb' <F>", 4, 4}, {"'bb'", 2, 4}} {
		s := m.State()
		now, most := m.Used()
		if text(s.Field) != want.field || s.Steps != i || now != want.now || most != want.most {
			t.Errorf("behind %d steps there is %s with %d and %d cells, want %v", i, text(s.Field), now, most, want)
		}
		checkHeap(t, m)
		e := m.Step()
		if (e == api.OK) != (i < 3) || i == 3 && e != api.ErrClosed {
			t.Errorf("the step behind %d steps is %v", i, e)
		}
	}
	if l := m.Watch(); !slices.Equal(l, []int{1, 2, 3}) || len(m.Watch()) != 0 {
		t.Errorf("Watch = %v", l)
	}
	m = loaded(t, example, parsed(t, "<F 'aa'>"), 4)
	if n, e := m.Go(9); n != 3 || e != api.OK {
		t.Errorf("Go = %d, %v", n, e)
	}
	if now, most := m.Used(); now != 2 || most != 4 {
		t.Errorf("Used = %d, %d", now, most)
	}
}

func TestNil(t *testing.T) {
	var m *Machine
	if e := m.Step(); e != api.ErrArgument {
		t.Errorf("Step = %v", e)
	}
	for _, fuel := range []int{-1, 0, 1} {
		if n, e := m.Go(fuel); n != 0 || e != api.ErrArgument {
			t.Errorf("Go = %d, %v", n, e)
		}
	}
	now, most := m.Used()
	if s := m.State(); !isZero(s) || now != 0 || most != 0 || len(m.Watch()) != 0 {
		t.Errorf("there are %v, %d, %d", s, now, most)
	}
}

func TestLoadErrors(t *testing.T) {
	right := unit(t, example)
	wrong := []api.Term{{Kind: api.Number, Text: "01"}}
	for _, c := range []struct {
		name  string
		u     code.Unit
		e     []api.Term
		cells int
		want  api.Errno
	}{
		{"a unit with a wrong name", code.Unit{Routines: []code.Routine{{Name: "1"}}}, wrong, -1, code.ErrUnit},
		{"a wrong plan", code.Unit{Routines: []code.Routine{{Name: "F", Rules: make([]code.Rule, 1)}}}, wrong, -1, project.ErrPlan},
		{"a routine without rules", code.Unit{Routines: []code.Routine{{Name: "F"}}}, wrong, -1, api.ErrCount},
		{"too many routines", code.Unit{Routines: make([]code.Routine, 151)}, wrong, -1, api.ErrCount},
		{"a wrong term", right, wrong, -1, api.ErrForm},
		{"a variable", right, parsed(t, "(e.1)"), -1, api.ErrForm},
		{"too many terms", right, chars(4001), -1, api.ErrCount},
		{"too deep", right, nested(101), -1, api.ErrDepth},
		{"cells below 0", right, nil, -1, api.ErrRange},
		{"too many cells", right, chars(5), 100001, api.ErrRange},
		{"too few cells", right, parsed(t, "a (b) <F c>"), 6, api.ErrLarge},
		{"enough cells", right, parsed(t, "a (b) <F c>"), 7, api.OK},
		{"no cells", right, nil, 0, api.OK},
		{"as many cells as may be", right, nested(100, chars(3900)...), 100000, api.OK},
		{"no routines", code.Unit{}, parsed(t, "<F>"), 2, api.OK},
	} {
		m, e := Load(c.u, c.e, c.cells)
		if e != c.want || (m == nil) != (e != api.OK) {
			t.Errorf("%s: Load = %v, %v, want %v", c.name, m, e, c.want)
		}
		if e == api.OK && (!same(m.State(), api.State{Field: c.e}) || len(m.Watch()) != 0) {
			t.Errorf("%s: the state is %v", c.name, m.State())
		}
	}
}

const stepProgram = `
F { 'a' e.1 = 'b' <F e.1>; = ; }
Swap { s.1 e.2 t.3 = t.3 e.2 s.1; }
Two { e.1 = (e.1) <F <F e.1>> e.1; }
In { (e.1 (s.2 e.3) e.1) e.4 = <In (e.1 e.4 e.1 (s.2) e.3)> (<Two s.2> (s.2)); e.1 = ; }
Add { e.1 = own e.1; }
Deep { e.1 = ((((e.1) e.1) <F e.1>)); }
`

func TestStep(t *testing.T) {
	for _, c := range []struct {
		field, want string
		e           api.Errno
	}{
		{"<F 'aa'> <F 'a'>", "'b' <F 'a'> <F 'a'>", 0},
		{"<F>", "", 0},
		{"x (<F>) y", "x () y", 0},
		{"<Swap 1 (b) <F> ((c) d)>", "<Swap 1 (b) ((c) d)>", 0},
		{"<Swap 1 (b) ((c) d)>", "((c) d) (b) 1", 0},
		{"<Swap 1>", "", api.ErrRecognition},
		{"<Two 'a' (b)>", "('a' (b)) <F <F 'a' (b)>> 'a' (b)", 0},
		{"<Two>", "() <F <F>>", 0},
		{"(<In ('x' (1 (2) 3) 'x') 'yz'>)", "(<In ('xyzx' (1) (2) 3)> (<Two 1> (1)))", 0},
		{"<In ((1)) ()>", "<In (() (1))> (<Two 1> (1))", 0},
		{"<In (a)>", "", 0},
		{"<Deep (a) b>", "((((a) b) (a) b) <F (a) b>)", -1},
		{"<Add 1 2>", "own 1 2", 0},
		{"<Sub 1 2>", "-1", 0},
		{"<Sub 1 a>", "", api.ErrBuiltin},
		{"<Mu F 'a'>", "<F 'a'>", 0},
		{"(<Dn '*' (F a) b '*' (F)>)", "(<F a> b <F>)", 0},
		{"<Up (a) '*' b>", "(a) '*V' b", 0},
		{"<Lenw (a) b>", "2 (a) b", 0},
		{"<X>", "", api.ErrUndefined},
		{"(<F <X>>)", "", api.ErrUndefined},
		{"a (b)", "", api.ErrClosed},
		{"", "", api.ErrClosed},
		{"(a (<F (c)>)) <F>", "", api.ErrRecognition},
	} {
		m := loaded(t, stepProgram, parsed(t, c.field), store.MaxCells)
		begin := m.State()
		want, code := field.Step(program(t, stepProgram), begin)
		if c.e >= 0 && (code != c.e || text(want.Field) != c.want && c.want != "") {
			t.Errorf("the definition's step of %s is %s, %v, want %s, %v", c.field, text(want.Field), code, c.want, c.e)
		}
		if e := m.Step(); e != code {
			t.Errorf("the step of %s is %v, want %v", c.field, e, code)
		}
		if code != api.OK {
			want = begin
		}
		if !same(m.State(), want) {
			t.Errorf("the step of %s leads to %v, want %v", c.field, m.State(), want)
		}
		checkHeap(t, m)
		if now, most := m.Used(); now != store.Cells(want.Field) || most != max(now, store.Cells(begin.Field)) {
			t.Errorf("behind the step of %s there are %d and %d cells", c.field, now, most)
		}
		if steps := m.Watch(); len(steps) != want.Steps {
			t.Errorf("behind the step of %s %v wait", c.field, steps)
		}
	}
}

// TestRuns compares runs of the machine with those of the definition up to the limits.
func TestRuns(t *testing.T) {
	const p = `
A { = 'a' <A>; } B { = <B> 'a'; } C { = <C <C>>; } D { = <D> <D>; } E { e.1 = <E (e.1)>; } F { (e.1) = <F (e.1 'a')>; }
G { e.1 = <G e.1 e.1 'a'>; } H { (e.1) = (<H ('a' e.1)>); } I { s.1 e.2 = <I e.2 s.1>; } J { 'a' e.1 = 'a' <J e.1> ('b'); = ; }
K { e.1 = <Prout e.1> <Br 'k' e.1 '=' e.1> <K e.1 'a'>; } L { = (<L>) (a) (<L>); } M { e.1 = e.1 <M <Lenw e.1>>; }
N { (e.1 s.2) e.3 = <N (e.1) (e.3) s.2>; () e.1 = e.1 e.1; }
`
	for _, c := range []struct {
		call string
		fuel int
		e    api.Errno
	}{
		{"<A>", 100000, api.ErrLarge}, {"<B>", 100000, api.ErrLarge}, {"<C>", 100000, api.ErrLarge}, {"<D>", 100000, api.ErrLarge},
		{"<E>", 100000, api.ErrLarge}, {"<F ()>", 1000, api.ErrFuel}, {"<F (" + long("'a'", 3998) + ")>", 10, api.ErrLarge}, {"<G>", 1000, api.ErrLarge},
		{"<H ()>", 1000, api.ErrLarge}, {"<I " + long("'abc'", 30) + ">", 300, api.ErrFuel}, {"<J " + long("'a'", 1000) + ">", 10000, 0},
		{"<K>", 10000, api.ErrLarge}, {"<L>", 1000, api.ErrLarge}, {"<M>", 1000, api.ErrLarge}, {"<N ('abcdefghijk')>", 1000, 0}, {"<A> <X>", 0, api.ErrFuel},
	} {
		e := parsed(t, c.call)
		s, _ := field.Start(program(t, p), e)
		want, code := field.Run(program(t, p), s, c.fuel)
		if code != c.e {
			t.Errorf("the definition's run of %.20s is %v, want %v", c.call, code, c.e)
		}
		if got, e := Run(program(t, p), e, c.fuel); e != code || !same(got, want) {
			t.Errorf("Run of %.20s with %d = %d steps, %v, want %d, %v", c.call, c.fuel, got.Steps, e, want.Steps, code)
		}
		m := loaded(t, p, e, store.MaxCells)
		if n, e := m.Go(c.fuel); n != want.Steps || e != code {
			t.Errorf("Go of %.20s with %d = %d, %v, want %d, %v", c.call, c.fuel, n, e, want.Steps, code)
		}
		checkHeap(t, m)
	}
}

// TestFull has view fields of as many brackets as may be: the heap has room for them, and for what a step needs besides.
func TestFull(t *testing.T) {
	const p = `
F { e.1 = e.1 e.1 e.1 e.1 e.1; } G { e.1 = (e.1) <H e.1> e.1 <H e.1> (e.1); } H { e.1 = (e.1) <K> (); } K { = ; }
L { e.1 = <H e.1> <H e.1> <H e.1> <H e.1> <H e.1>; } M { t.1 e.2 = e.2 t.1 <N e.2> t.1 e.2; e.1 = e.1; } N { e.1 = <K e.1> <L e.1>; }
`
	for _, c := range []struct {
		calls string
		e     api.Errno
	}{
		{"<F " + long("()", 3999) + ">", 0},
		{"<F " + long("()", 1990) + "> <F " + long("()", 1990) + ">", 0},
		{"<G <F ()>>", 0},
		{"<G " + long("()", 3990) + ">", 0},
		{"<F " + long("()", 700) + "> <G <F " + long("()", 650) + ">>", 0},
		{"<L " + long("()", 3900) + ">", 0},
		{"<L " + long("()", 3999) + ">", api.ErrLarge},
		{"<M <M " + long("()", 1900) + ">>", api.ErrRecognition},
	} {
		e := parsed(t, c.calls)
		s, _ := field.Start(program(t, p), e)
		want, code := field.Run(program(t, p), s, 1000)
		m := loaded(t, p, e, store.MaxCells)
		if n, e := m.Go(1000); n != want.Steps || e != code || !same(m.State(), want) || code != c.e {
			t.Errorf("Go of %.20s = %d, %v, want %d, %v, %v", c.calls, n, e, want.Steps, code, c.e)
		}
		checkHeap(t, m)
	}
}

// TestCostly has patterns whose plans would look at a long argument again and again.
func TestCostly(t *testing.T) {
	const p = `F { e.1 'x' e.2 'x' e.3 'x' e.4 'x' e.5 'x' e.6 '!' e.7 '?' = ; e.1 'xy' e.2 'yx' e.3 (e.4) = <F (e.3) e.2> e.1; (e.1) e.2 = e.2; e.1 = e.1; }`
	for _, arg := range []string{
		long("'x'", 3000) + "'?'",
		long("'xyz'", 500) + long("'yx'", 500) + "(end)",
		long("'zy'", 500) + "'xy'" + long("'xyz'", 300) + "'yx'" + "(end)",
		long("'xy'", 40) + "'yx' (a)",
	} {
		e := parsed(t, "<F "+arg+">")
		s, _ := field.Start(program(t, p), e)
		want, code := field.Run(program(t, p), s, 50)
		if got, e := Run(program(t, p), e, 50); e != code || code != api.OK || !same(got, want) {
			t.Errorf("Run of %.20s = %d steps, %v, want %d, %v", arg, got.Steps, e, want.Steps, code)
		}
	}
}

// TestCells has machines with just enough cells, and with one less.
func TestCells(t *testing.T) {
	for _, c := range []struct {
		program, field string
		cells          []int // of the fields
		e              api.Errno
	}{
		{example, "<F 'aa'>", []int{4, 4, 4, 2}, 0},
		{"F { e.1 = e.1 e.1; }", "<F (a)>", []int{5, 6}, 0},
		{"F { e.1 = (e.1) <G e.1>; } G { e.1 = ; }", "<F a b>", []int{4, 8, 4}, 0},
		{"F { e.1 = (e.1) <G e.1>; } G { e.1 = ; }", "x <F a b> (y)", []int{8, 12, 8}, 0},
		{"F { s.1 = s.1 <F s.1>; }", "<F a>", []int{3, 4, 5, 6, 7, 8}, api.ErrFuel},
		{"F { = <Prout a> <Br 'k=v'> <Cp 'k'> <Dn '*' (G)>; } G { = (()); }", "<F>", []int{2, 17, 14, 9, 7, 3, 5}, 0},
	} {
		most := slices.Max(c.cells)
		for limit := c.cells[0]; limit <= most+1; limit++ {
			m := loaded(t, c.program, parsed(t, c.field), limit)
			end := slices.IndexFunc(c.cells, func(n int) bool { return n > limit })
			want := api.ErrLarge
			if end < 0 {
				end, want = len(c.cells), c.e
			}
			n, e := m.Go(len(c.cells) - 1)
			now, top := m.Used()
			if n != end-1 || e != want || now != c.cells[end-1] || top != slices.Max(c.cells[:end]) {
				t.Errorf("%s: with %d cells Go = %d, %v, and then there are %d and %d cells, want %d, %v", c.field, limit, n, e, now, top, end-1, want)
			}
			if e == api.ErrLarge {
				before := m.State()
				if e := m.Step(); e != api.ErrLarge || !same(m.State(), before) || before.Steps != n {
					t.Errorf("%s: with %d cells a step is %v", c.field, limit, e)
				}
			}
			checkHeap(t, m)
		}
	}
}

// TestStepLimits has the limits of view fields, in the order of the errors of a step.
func TestStepLimits(t *testing.T) {
	const p = "F { e.1 = e.1 e.1; } G { e.1 = (e.1); } H { = ; } K { 'a' = ; } Many { e.1 = <Many1 e.1 e.1> e.1; } Many1 { e.1 = e.1; }"
	for _, c := range []struct {
		name  string
		field []api.Term
		fuel  int
		steps int
		e     api.Errno
	}{
		{"an argument that is too large", []api.Term{call("Many", chars(2001)...)}, 9, 1, api.ErrLarge},
		{"one that is not", []api.Term{call("Many", chars(2000)...)}, 9, 2, api.OK},
		{"a large one of no function", []api.Term{call("X", call("F", chars(2001)...))}, 9, 1, api.ErrLarge},
		{"a large one that no rule takes", []api.Term{call("K", call("F", chars(2001)...))}, 9, 1, api.ErrLarge},
		{"one that no rule takes", []api.Term{call("K", call("F", chars(2000)...))}, 9, 1, api.ErrRecognition},
		{"one of no function", []api.Term{call("X", call("F", chars(2000)...))}, 9, 1, api.ErrUndefined},
		{"one of a built-in function", []api.Term{call("Lenw", call("F", chars(2000)...))}, 9, 1, api.ErrLarge},
		{"groups that are too deep", nested(98, call("G", nested(1)...)), 9, 1, api.OK},
		{"calls that are too deep", nested(99, call("G")), 9, 1, api.OK},
		{"a group too deep", nested(99, call("Dn", term.Chars("*")...)), 9, 0, api.ErrBuiltin},
		{"many calls", append([]api.Term{call("F", chars(3980)...)}, slices.Repeat([]api.Term{call("F")}, 10)...), 99, 11, api.OK},
	} {
		m := loaded(t, p, c.field, store.MaxCells)
		s, _ := field.Start(program(t, p), c.field)
		want, code := field.Run(program(t, p), s, c.fuel)
		n, e := m.Go(c.fuel)
		if n != c.steps || e != c.e || code != e || !same(want, m.State()) {
			t.Errorf("%s: Go = %d, %v, want %d, %v", c.name, n, e, want.Steps, code)
		}
	}
}

// TestMostSteps has the limit of steps, which no run reaches.
func TestMostSteps(t *testing.T) {
	const p = "F { = a a; } G { = ; } K { 'a' = ; }"
	for _, c := range []struct {
		field string
		steps int
		cells int
		e     api.Errno
	}{
		{"<F>", 999999999, 2, api.OK},
		{"<F>", 1000000000, 2, api.ErrRange},
		{"<F> b", 1000000000, 3, api.ErrRange},
		{"<K>", 1000000000, 9, api.ErrRecognition},
		{"a", 1000000000, 9, api.ErrClosed},
		{"(<F>)", 1000000000, 4, api.ErrRange},
	} {
		m := loaded(t, p, parsed(t, c.field), c.cells)
		m.steps = c.steps
		if e := m.Step(); e != c.e {
			t.Errorf("the step of %s behind %d steps is %v, want %v", c.field, c.steps, e, c.e)
		}
	}
	// the limits of the field come ahead, and those of the machine behind
	large := loaded(t, "F { e.1 = e.1 e.1 e.1 e.1 e.1 e.1; }", []api.Term{call("F", chars(3999)...)}, 4001)
	large.steps = 1000000000
	if e := large.Step(); e != api.ErrLarge {
		t.Errorf("the step is %v", e)
	}
	late := loaded(t, "F { e.1 = e.1 e.1; }", parsed(t, "<F 'abc'>"), 5)
	late.steps = 1000000000
	if e := late.Step(); e != api.ErrRange {
		t.Errorf("the step is %v", e)
	}
}

func TestGo(t *testing.T) {
	const p = example + " Loop { = <Loop>; }"
	for _, c := range []struct {
		field string
		fuel  int
		want  string
		n     int
		e     api.Errno
	}{
		{"<F 'aa'>", 3, "'bb'", 3, 0},
		{"<F 'aa'>", 100000, "'bb'", 3, 0},
		{"<F 'aa'>", 2, "'bb' <F>", 2, api.ErrFuel},
		{"<F 'aa'>", 0, "<F 'aa'>", 0, api.ErrFuel},
		{"'aa'", 0, "'aa'", 0, 0},
		{"<F 'aac'>", 9, "'bb' <F 'c'>", 2, api.ErrRecognition},
		{"<F 'aac'>", 2, "'bb' <F 'c'>", 2, api.ErrFuel},
		{"<X>", 0, "<X>", 0, api.ErrFuel},
		{"<X>", 1, "<X>", 0, api.ErrUndefined},
		{"<F 'a'> <Add>", 9, "'b' <Add>", 2, api.ErrBuiltin},
		{"<Loop>", 100000, "<Loop>", 100000, api.ErrFuel},
		{"<F>", -1, "<F>", 0, api.ErrRange},
		{"<F>", 100001, "<F>", 0, api.ErrRange},
		{"", 1 << 62, "", 0, api.ErrRange},
	} {
		m := loaded(t, p, parsed(t, c.field), 10)
		if n, e := m.Go(c.fuel); n != c.n || e != c.e || text(m.State().Field) != c.want || m.State().Steps != n {
			t.Errorf("Go of %s with %d = %d, %v, and then %v", c.field, c.fuel, n, e, m.State())
		}
		s, e := Run(program(t, p), parsed(t, c.field), c.fuel)
		if e != c.e || c.e == api.ErrRange && !isZero(s) || c.e != api.ErrRange && (text(s.Field) != c.want || s.Steps != c.n) {
			t.Errorf("Run of %s with %d = %v, %v", c.field, c.fuel, s, e)
		}
	}
}

func TestRunErrors(t *testing.T) {
	wrong := []api.Term{{Kind: api.Number, Text: "01"}}
	for _, c := range []struct {
		name string
		p    api.Program
		e    []api.Term
		fuel int
		want api.Errno
	}{
		{"a wrong program", api.Program{Functions: []api.Function{{Name: "1"}}}, wrong, -1, check.ErrName},
		{"a program with a condition", program(t, "F { e.1, e.1 : = ; }"), wrong, -1, api.ErrCore},
		{"a program with a block", program(t, "F { e.1, e.1 : { = ; }; }"), wrong, -1, api.ErrCore},
		{"a wrong term", program(t, example), wrong, -1, api.ErrForm},
		{"a variable", program(t, example), parsed(t, "e.1"), -1, api.ErrForm},
		{"too many terms", program(t, example), chars(4001), 1, api.ErrCount},
		{"no fuel", program(t, example), nil, -1, api.ErrRange},
		{"too much fuel", program(t, example), nil, 100001, api.ErrRange},
	} {
		if s, e := Run(c.p, c.e, c.fuel); e != c.want || !isZero(s) {
			t.Errorf("%s: Run = %v, %v, want %v", c.name, s, e, c.want)
		}
	}
}

func TestWatch(t *testing.T) {
	m := loaded(t, "F { e.1 = <F e.1>; }", parsed(t, "<F>"), 2)
	count := func(from, to int) []int {
		var l []int
		for i := from; i <= to; i++ {
			l = append(l, i)
		}
		return l
	}
	next := 1
	for _, c := range []struct{ steps, wait int }{{0, 0}, {1, 1}, {63, 63}, {64, 64}, {65, 64}, {200, 64}, {2, 2}} {
		if n, e := m.Go(c.steps); n != c.steps || e != api.ErrFuel {
			t.Fatalf("Go = %d, %v", n, e)
		}
		if l := m.Watch(); !slices.Equal(l, count(next, next+c.wait-1)) {
			t.Errorf("behind %d more steps %v wait", c.steps, l)
		}
		next += c.steps
	}
	// a step that is not made waits for nothing
	m = loaded(t, "F { a = <F>; }", parsed(t, "<F a>"), 3)
	if n, e := m.Go(5); n != 1 || e != api.ErrRecognition || !slices.Equal(m.Watch(), []int{1}) {
		t.Errorf("Go = %d, %v", n, e)
	}
}

// TestMemory changes what was handed in, and what was handed back.
func TestMemory(t *testing.T) {
	u := unit(t, "F { 'a' e.1 = <Prout e.1> <Br 'k=' e.1> ('c') <F e.1>; = ; }")
	e := parsed(t, "(b) <F 'aa'>")
	m, errno := Load(u, e, 100)
	if errno != api.OK {
		t.Fatal(errno)
	}
	e[0].Kids[0].Text, e[1].Kids[0].Text = "x", "x"
	rule := u.Routines[0].Rules[0]
	rule.Plan.Ops[0].Symbol.Text = "x"
	for i := range rule.Build {
		rule.Build[i].Text = "e.9"
	}
	u.Routines[0].Rules[1] = rule
	if s := m.State(); text(s.Field) != "(b) <F 'aa'>" {
		t.Errorf("the state is %v", s)
	}
	if n, e := m.Go(3); n != 3 || e != api.ErrFuel {
		t.Errorf("Go = %d, %v", n, e)
	}
	for range 2 {
		s := m.State()
		if text(s.Field) != "(b) ('c') <F 'a'>" || !slices.Equal(s.Store.Output, []string{"'a'"}) || len(s.Store.Buried) != 1 || text(s.Store.Buried[0].Value) != "'a'" {
			t.Errorf("the state is %v", s)
		}
		s.Field[0].Kids[0].Text, s.Store.Output[0], s.Store.Buried[0].Value[0].Text, s.Store.Buried[0].Key[0].Text = "x", "x", "x", "x"
		s.Store.Buried[0] = api.Buried{}
	}
	if n, e := m.Go(99); n != 4 || e != api.OK || text(m.State().Field) != "(b) ('c') ('c')" {
		t.Errorf("Go = %d, %v, and then %v", n, e, m.State())
	}
}

// TestManyPieces has view fields of very many pieces, which are joined as they are done.
func TestManyPieces(t *testing.T) {
	const p = "F { 'a' e.1 = <F e.1> 'b' (e.1 'c'); = ; } G { 'a' e.1 = 'b' (c) <G e.1>; = ; } H { e.1 = <K e.1>; } K { e.1 = <Lenw e.1>; }"
	for _, n := range []int{1, 2, 3, 10, 100} {
		for _, name := range []string{"F", "G"} {
			e := parsed(t, "<H (<"+name+" "+long("'a'", n)+">) <"+name+" "+long("'a'", n)+">>")
			s, _ := field.Start(program(t, p), e)
			m := loaded(t, p, e, store.MaxCells)
			for {
				next, code := field.Step(program(t, p), s)
				if e := m.Step(); e != code {
					t.Fatalf("%s with %d: a step is %v, want %v", name, n, e, code)
				}
				if code != api.OK {
					break
				}
				s = next
				if n <= 10 && !same(m.State(), s) {
					t.Fatalf("%s with %d: the state is %v, want %v", name, n, m.State(), s)
				}
				for b := m.active; b != nil; b = b.around {
					if len(b.done) > 1 && b.done[0].cells <= b.done[1].cells {
						t.Fatalf("%s with %d: the pieces are %v", name, n, b.done)
					}
				}
			}
			if !same(m.State(), s) {
				t.Errorf("%s with %d: the state is %v, want %v", name, n, m.State(), s)
			}
			checkHeap(t, m)
		}
	}
}

// TestFault has the errors of the store, which come back as they are.
func TestFault(t *testing.T) {
	h := heap{}
	for name, do := range map[string]func(){
		"put":   func() { h.put(parsed(t, "a")) },
		"get":   func() { h.get(piece{handle: 1}) },
		"copy":  func() { h.copy(piece{handle: 1}) },
		"drop":  func() { h.drop(piece{handle: 1}) },
		"cut":   func() { h.cut(piece{handle: 1}, span{to: 1}) },
		"join":  func() { h.join(piece{handle: 1}, piece{handle: 2}) },
		"group": func() { h.group([]piece{{handle: 1}}) },
	} {
		if e := attempt(do); e != api.ErrArgument {
			t.Errorf("%s of no store is %v", name, e)
		}
	}
	h = newHeap()
	if e := attempt(func() { h.get(piece{handle: 7}) }); e != store.ErrHandle {
		t.Errorf("get of no handle is %v", e)
	}
	if s := (fault{"put", api.ErrLarge}).Error(); s != "put: 7" {
		t.Errorf("the text of an error is %s", s)
	}
	defer func() {
		if x := recover(); x != "another panic" {
			t.Errorf("there was the panic %v", x)
		}
	}()
	attempt(func() { panic("another panic") })
}
