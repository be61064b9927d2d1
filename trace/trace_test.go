package trace_test

import (
	"slices"
	"strconv"
	"strings"
	"testing"

	"chiasmus/api"
	"chiasmus/check"
	"chiasmus/field"
	"chiasmus/syntax"
	"chiasmus/term"
	"chiasmus/trace"
)

func parsed(t testing.TB, s string) []api.Term {
	t.Helper()
	l, at, e := term.Parse(s)
	if e != api.OK {
		t.Fatalf("Parse(%q) = %d, %v", s, at, e)
	}
	return l
}

func program(t testing.TB, s string) api.Program {
	t.Helper()
	p, at, e := syntax.Program(s)
	if e != api.OK {
		t.Fatalf("Program(%q) = %d, %v", s, at, e)
	}
	return p
}

func text(l []api.Term) string {
	s, e := term.Text(l)
	if e != api.OK {
		return "error " + e.Error()
	}
	return s
}

func chars(n int) []api.Term { return slices.Repeat(term.Chars("a"), n) }

// eventText returns an event as its function and argument, its sentence and bindings, and its result.
func eventText(x trace.Event) string {
	s := x.Function + "(" + text(x.Argument) + ") " + strconv.Itoa(x.Sentence)
	for _, b := range x.Bindings {
		s += " " + b.Var + "[" + text(b.Value) + "]"
	}
	return s + " -> " + text(x.Result)
}

func eventsText(l []trace.Event) string {
	var texts []string
	for _, x := range l {
		texts = append(texts, eventText(x))
	}
	return strings.Join(texts, "; ")
}

// nodesText returns nodes as their numbers, the kids, and the value of those that ended.
func nodesText(l []trace.Node) string {
	var texts []string
	for _, n := range l {
		s := strconv.Itoa(n.Step) + ":"
		for _, k := range n.Kids {
			s += " " + strconv.Itoa(k)
		}
		if n.Ended {
			s += " = " + text(n.Value)
		} else if len(n.Value) > 0 {
			s += " has a value"
		}
		texts = append(texts, s)
	}
	return strings.Join(texts, "; ")
}

func recorder(t testing.TB, p, e string) *trace.Recorder {
	t.Helper()
	r, code := trace.New(program(t, p), parsed(t, e))
	if code != api.OK {
		t.Fatalf("New = %v", code)
	}
	return r
}

// at fails, if the present state is another one.
func at(t testing.TB, r *trace.Recorder, want string, steps int) {
	t.Helper()
	s := r.State()
	if !term.Equal(s.Field, parsed(t, want)) || s.Steps != steps || len(r.Events()) != steps {
		t.Errorf("the state is %s behind %d steps, with %d events, not %s behind %d", text(s.Field), s.Steps, len(r.Events()), want, steps)
	}
}

const example = "F { 'a' e.1 = <F e.1> 'b'; = ; }"

func TestExample(t *testing.T) {
	const events = "F('aa') 0 e.1['a'] -> <F 'a'> 'b'; F('a') 0 e.1[] -> <F> 'b'; F() 1 -> "
	l, e := trace.Steps(program(t, example), parsed(t, "<F 'aa'>"), 9)
	if got := eventsText(l); got != events || e != api.OK {
		t.Errorf("Steps = %s, %v", got, e)
	}
	nodes, e := trace.Tree(program(t, example), parsed(t, "<F 'aa'>"), 9)
	if got := nodesText(nodes); got != "0: 1 = 'bb'; 1: 2 = 'b'; 2: = " || e != api.OK {
		t.Errorf("Tree = %s, %v", got, e)
	}
	r := recorder(t, example, "<F 'aa'>")
	at(t, r, "<F 'aa'>", 0)
	if i, e := r.To([]trace.Stop{{Function: "F", Pattern: parsed(t, "'a'")}}, 9); i != 0 || e != api.OK {
		t.Errorf("To = %d, %v", i, e)
	}
	at(t, r, "<F 'a'> 'b'", 1)
}

func TestForthAndBack(t *testing.T) {
	r := recorder(t, example, "<F 'aaa'> c")
	for _, c := range []struct {
		back    bool
		n, want int
		field   string
		steps   int
		e       api.Errno
	}{
		{false, 0, 0, "<F 'aaa'> c", 0, 0},
		{true, 5, 0, "<F 'aaa'> c", 0, 0},
		{false, 2, 2, "<F 'a'> 'bb' c", 2, 0},
		{false, -1, 0, "<F 'a'> 'bb' c", 2, api.ErrRange},
		{false, 100001, 0, "<F 'a'> 'bb' c", 2, api.ErrRange},
		{true, 0, 0, "<F 'a'> 'bb' c", 2, 0},
		{true, -3, 0, "<F 'a'> 'bb' c", 2, 0},
		{true, -1 << 62, 0, "<F 'a'> 'bb' c", 2, 0},
		{true, 1, 1, "<F 'aa'> 'b' c", 1, 0},
		{false, 100000, 3, "'bbb' c", 4, 0},
		{false, 1, 0, "'bbb' c", 4, 0},
		{true, 3, 3, "<F 'aa'> 'b' c", 1, 0},
		{false, 1, 1, "<F 'a'> 'bb' c", 2, 0},
		{true, 1 << 62, 2, "<F 'aaa'> c", 0, 0},
	} {
		var n int
		var e api.Errno
		if c.back {
			n = r.Back(c.n)
		} else {
			n, e = r.Forth(c.n)
		}
		if n != c.want || e != c.e {
			t.Errorf("%d steps, back %v: %d, %v, want %d, %v", c.n, c.back, n, e, c.want, c.e)
		}
		at(t, r, c.field, c.steps)
	}
}

// TestStopped has errors of steps: the recorder stays ahead of them.
func TestStopped(t *testing.T) {
	const src = "F { 'a' e.1 = <F e.1>; 'b' e.1 = <Nothing e.1>; 'd' e.1 = <Add e.1>; }"
	for _, c := range []struct {
		e, field string
		steps    int
		code     api.Errno
	}{
		{"<F 'aac'>", "<F 'c'>", 2, api.ErrRecognition},
		{"<F 'ab'>", "<Nothing>", 2, api.ErrUndefined},
		{"<F 'd'>", "<Add>", 1, api.ErrBuiltin},
	} {
		r := recorder(t, src, c.e)
		if n, e := r.Forth(9); n != c.steps || e != c.code {
			t.Errorf("%s: Forth = %d, %v", c.e, n, e)
		}
		at(t, r, c.field, c.steps)
		if n, e := r.Forth(c.steps); n != 0 || e != c.code {
			t.Errorf("%s: Forth again = %d, %v", c.e, n, e)
		}
		if n, e := r.Forth(0); n != 0 || e != api.OK {
			t.Errorf("%s: Forth of nothing = %d, %v", c.e, n, e)
		}
		if i, e := r.To(nil, 9); i != -1 || e != c.code {
			t.Errorf("%s: To = %d, %v", c.e, i, e)
		}
		at(t, r, c.field, c.steps)
		if n := r.Back(9); n != c.steps {
			t.Errorf("%s: Back = %d", c.e, n)
		}
		at(t, r, c.e, 0)
		l, e := trace.Steps(program(t, src), parsed(t, c.e), 9)
		if len(l) != c.steps || e != c.code {
			t.Errorf("%s: Steps = %s, %v", c.e, eventsText(l), e)
		}
		nodes, e := trace.Tree(program(t, src), parsed(t, c.e), 9)
		if len(nodes) != c.steps || e != c.code || nodes[0].Ended {
			t.Errorf("%s: Tree = %s, %v", c.e, nodesText(nodes), e)
		}
	}
}

func TestTo(t *testing.T) {
	stop := func(function, pattern string) trace.Stop {
		return trace.Stop{Function: function, Pattern: parsed(t, pattern)}
	}
	const src = "F { s.1 e.2 = <G s.1> <F e.2>; = ; } G { s.1 = (s.1); }"
	for _, c := range []struct {
		name  string
		stops []trace.Stop
		fuel  int
		want  int
		field string
		steps int
		e     api.Errno
	}{
		{"no stop", nil, 9, -1, "(a) (b)", 5, 0},
		{"no stop, and just enough fuel", nil, 5, -1, "(a) (b)", 5, 0},
		{"no stop, and not enough fuel", nil, 4, 0, "(a) (b) <F>", 4, api.ErrFuel},
		{"no fuel", nil, 0, 0, "<F a b>", 0, api.ErrFuel},
		{"at once", []trace.Stop{stop("F", "e.1")}, 0, 0, "<F a b>", 0, 0},
		{"at once, by any function", []trace.Stop{stop("", "e.1")}, 9, 0, "<F a b>", 0, 0},
		{"a function", []trace.Stop{stop("G", "e.1")}, 9, 0, "<G a> <F b>", 1, 0},
		{"just enough fuel for it", []trace.Stop{stop("G", "e.1")}, 1, 0, "<G a> <F b>", 1, 0},
		{"a function and a pattern", []trace.Stop{stop("G", "b")}, 9, 0, "(a) <G b> <F>", 3, 0},
		{"a pattern", []trace.Stop{stop("", "")}, 9, 0, "(a) (b) <F>", 4, 0},
		{"a pattern with variables", []trace.Stop{stop("", "s.1 s.1"), stop("", "s.1")}, 9, 1, "<G a> <F b>", 1, 0},
		{"the first one of several", []trace.Stop{stop("X", "e.1"), stop("G", "e.1"), stop("", "a")}, 9, 1, "<G a> <F b>", 1, 0},
		{"a function that is not called", []trace.Stop{stop("X", "e.1")}, 9, -1, "(a) (b)", 5, 0},
		{"a function that is not called, with little fuel", []trace.Stop{stop("X", "e.1")}, 2, 0, "(a) <F b>", 2, api.ErrFuel},
		{"a name that is none", []trace.Stop{stop("( ", "e.1")}, 9, -1, "(a) (b)", 5, 0},
		{"too many stops", append(slices.Repeat([]trace.Stop{stop("", "e.1")}, 100), trace.Stop{Pattern: parsed(t, "<F>")}), -1, 0, "<F a b>", 0, api.ErrCount},
		{"as many as may be", append(slices.Repeat([]trace.Stop{stop("", "x")}, 99), stop("", "e.1")), 0, 99, "<F a b>", 0, 0},
		{"a call in a pattern", []trace.Stop{stop("", "e.1"), stop("", "<F>")}, -1, 0, "<F a b>", 0, api.ErrForm},
		{"a pattern that is too large", []trace.Stop{{Pattern: chars(4001)}, stop("", "<F>")}, -1, 0, "<F a b>", 0, api.ErrCount},
		{"fuel below 0", []trace.Stop{stop("", "e.1")}, -1, 0, "<F a b>", 0, api.ErrRange},
		{"fuel above the limit", []trace.Stop{stop("", "e.1")}, 100001, 0, "<F a b>", 0, api.ErrRange},
		{"fuel at the limit", []trace.Stop{stop("G", "b")}, 100000, 0, "(a) <G b> <F>", 3, 0},
	} {
		r := recorder(t, src, "<F a b>")
		if i, e := r.To(c.stops, c.fuel); i != c.want || e != c.e {
			t.Errorf("%s: To = %d, %v, want %d, %v", c.name, i, e, c.want, c.e)
		}
		at(t, r, c.field, c.steps)
	}
	// a stop that holds again
	r := recorder(t, src, "<F a b>")
	stops := []trace.Stop{stop("F", "e.1")}
	for steps := 0; steps <= 4; steps += 2 {
		if i, e := r.To(stops, 9); i != 0 || e != api.OK || r.State().Steps != steps {
			t.Errorf("To = %d, %v behind %d steps", i, e, r.State().Steps)
		}
		r.Forth(1)
	}
	if i, e := r.To(stops, 9); i != -1 || e != api.OK {
		t.Errorf("To = %d, %v", i, e)
	}
}

// TestLargeArgument has an argument that no pattern is matched with.
func TestLargeArgument(t *testing.T) {
	p := program(t, "F { e.1 = <G e.1 e.1>; } G { e.1 = ; }")
	r, _ := trace.New(p, []api.Term{{Kind: api.Call, Text: "F", Kids: chars(2001)}})
	if i, e := r.To([]trace.Stop{{Function: "G", Pattern: parsed(t, "e.1")}}, 9); i != -1 || e != api.ErrLarge {
		t.Errorf("To = %d, %v", i, e)
	}
}

// TestMany has runs that are longer than a recorder keeps.
func TestMany(t *testing.T) {
	const loop = "F { e.1 = <F e.1>; }"
	p, e := program(t, loop), parsed(t, "<F>")
	r := recorder(t, loop, "<F>")
	for _, c := range []struct {
		n, want int
		e       api.Errno
	}{{1999, 1999, 0}, {1, 1, 0}, {0, 0, 0}, {1, 0, api.ErrCount}, {100000, 0, api.ErrCount}} {
		if n, e := r.Forth(c.n); n != c.want || e != c.e {
			t.Errorf("Forth of %d = %d, %v", c.n, n, e)
		}
	}
	if i, e := r.To(nil, 1); i != -1 || e != api.ErrCount || r.State().Steps != 2000 || len(r.Events()) != 2000 {
		t.Errorf("To = %d, %v", i, e)
	}
	if i, e := r.To(nil, 0); i != 0 || e != api.ErrFuel {
		t.Errorf("To = %d, %v", i, e)
	}
	if n := r.Back(10); n != 10 {
		t.Errorf("Back = %d", n)
	}
	if n, e := r.Forth(20); n != 10 || e != api.ErrCount {
		t.Errorf("Forth = %d, %v", n, e)
	}
	for fuel, want := range map[int]api.Errno{2000: api.ErrFuel, 2001: api.ErrCount, 100000: api.ErrCount, 7: api.ErrFuel} {
		n := min(fuel, 2000)
		if l, code := trace.Steps(p, e, fuel); len(l) != n || code != want {
			t.Errorf("Steps with %d = %d, %v", fuel, len(l), code)
		}
		if l, code := trace.Tree(p, e, fuel); len(l) != n || code != want || len(l[n-1].Kids) != 0 || len(l[n-2].Kids) != 1 || l[0].Ended {
			t.Errorf("Tree with %d = %d, %v", fuel, len(l), code)
		}
	}
	// a run of just so many steps, and an error behind them
	const down = "F { 0 = ; s.1 = <F <Sub s.1 1>>; } G { 0 = <X>; s.1 = <G <Sub s.1 1>>; }"
	if l, code := trace.Steps(program(t, down), parsed(t, "<F 999> <F 0>"), 100000); len(l) != 2000 || code != api.OK {
		t.Errorf("Steps = %d, %v", len(l), code)
	}
	if l, code := trace.Steps(program(t, down), parsed(t, "<G 999> <F 0>"), 100000); len(l) != 1999 || code != api.ErrUndefined {
		t.Errorf("Steps = %d, %v", len(l), code)
	}
	if l, code := trace.Steps(program(t, down), parsed(t, "<F 0> <G 999>"), 100000); len(l) != 2000 || code != api.ErrCount {
		t.Errorf("Steps = %d, %v", len(l), code)
	}
}

func TestEvents(t *testing.T) {
	const src = "F { (e.1) s.2 = <G <H s.2>> (e.1); } G { e.1 e.2 = <Mu H e.2>; } H { s.1 = s.1 s.1; = ; e.1 = (e.1); }"
	const want = "F(('x') y) 0 e.1['x'] s.2[y] -> <G <H y>> ('x'); H(y) 0 s.1[y] -> y y; G(y y) 0 e.1[] e.2[y y] -> <Mu H y y>; " +
		"Mu(H y y) -1 -> <H y y>; H(y y) 2 e.1[y y] -> (y y)"
	r := recorder(t, src, "a (<F ('x') y> b)")
	if n, e := r.Forth(9); n != 5 || e != api.OK {
		t.Errorf("Forth = %d, %v", n, e)
	}
	if got := eventsText(r.Events()); got != want {
		t.Errorf("Events = %s", got)
	}
	at(t, r, "a ((y y) ('x') b)", 5)
	r.Back(3)
	if got := eventsText(r.Events()); got != want[:strings.Index(want, "; G")] {
		t.Errorf("Events = %s", got)
	}
	r = recorder(t, src, "a b")
	if l := r.Events(); len(l) != 0 {
		t.Errorf("Events = %s", eventsText(l))
	}
}

func TestTree(t *testing.T) {
	const src = `
F { s.1 e.2 = (<G <H s.1>> <F e.2>) s.1; = ; }
G { e.1 = e.1 <H>; }
H { s.1 = s.1 s.1; = ; }
K { e.1 = <Mu G e.1>; }
L { = <X>; }
M { = a <H b> <L> <H c>; }
N { = <K <H d>>; }
`
	for _, c := range []struct {
		e    string
		fuel int
		want string
		code api.Errno
	}{
		{"a (b)", 9, "", 0},
		{"<H>", 9, "0: = ", 0},
		{"<H> <H a>", 9, "0: = ; 1: = a a", 0},
		{"<G <H a>>", 9, "0: = a a; 1: 2 = a a; 2: = ", 0},
		{"<F a>", 9, "0: 1 2 4 = (a a) a; 1: = a a; 2: 3 = a a; 3: = ; 4: = ", 0},
		{"<F a>", 3, "0: 1 2; 1: = a a; 2:", api.ErrFuel},
		{"<K x>", 9, "0: 1 = x; 1: 2 = x; 2: 3 = x; 3: = ", 0},
		{"<M> <H>", 9, "0: 1 2; 1: = b b; 2:", api.ErrUndefined},
		{"(<N>)", 9, "0: 1 2 = d d; 1: = d d; 2: 3 = d d; 3: 4 = d d; 4: 5 = d d; 5: = ", 0},
		{"<Prout <H a>>", 9, "0: = a a; 1: = ", 0},
		{"<H>", 0, "", api.ErrFuel},
		{"<X>", 9, "", api.ErrUndefined},
	} {
		l, code := trace.Tree(program(t, src), parsed(t, c.e), c.fuel)
		if got := nodesText(l); got != c.want || code != c.code {
			t.Errorf("Tree of %s = %s, %v, want %s, %v", c.e, got, code, c.want, c.code)
		}
	}
}

// TestDeepest has calls as deep as may be.
func TestDeepest(t *testing.T) {
	e := parsed(t, "<F 'a'>")
	for range 99 {
		e = []api.Term{{Kind: api.Group, Kids: e}}
	}
	l, code := trace.Tree(program(t, "F { 'a' = <F> <F>; = <G>; } G { = 'b'; }"), e, 9)
	if got := nodesText(l); got != "0: 1 3 = 'bb'; 1: 2 = 'b'; 2: = 'b'; 3: 4 = 'b'; 4: = 'b'" || code != api.OK {
		t.Errorf("Tree = %s, %v", got, code)
	}
	l, code = trace.Tree(program(t, "F { e.1 = (<G <F e.1>>); }"), parsed(t, "<F 'a'>"), 2000)
	if code != api.ErrLarge || len(l) != 49 || len(l[47].Kids) != 1 || len(l[48].Kids) != 0 {
		t.Errorf("Tree = %d, %v", len(l), code)
	}
}

func TestErrors(t *testing.T) {
	p, wrong := program(t, example), []api.Term{{Kind: api.Number, Text: "01"}}
	faulty := api.Program{Functions: []api.Function{{Name: "1"}}}
	for _, c := range []struct {
		name string
		p    api.Program
		e    []api.Term
		fuel int
		want api.Errno
	}{
		{"a wrong program", faulty, wrong, -1, check.ErrName},
		{"a program with a condition", program(t, "F { a, b : c = ; }"), wrong, -1, api.ErrCore},
		{"a wrong term", p, wrong, -1, api.ErrForm},
		{"a variable", p, parsed(t, "<F s.1>"), -1, api.ErrForm},
		{"too many terms", p, chars(4001), -1, api.ErrCount},
		{"fuel below 0", p, parsed(t, "<F>"), -1, api.ErrRange},
		{"fuel above the limit", p, parsed(t, "<F>"), 100001, api.ErrRange},
	} {
		if l, e := trace.Steps(c.p, c.e, c.fuel); e != c.want || len(l) != 0 {
			t.Errorf("%s: Steps = %d, %v, want %v", c.name, len(l), e, c.want)
		}
		if l, e := trace.Tree(c.p, c.e, c.fuel); e != c.want || len(l) != 0 {
			t.Errorf("%s: Tree = %d, %v, want %v", c.name, len(l), e, c.want)
		}
		if c.want == api.ErrRange {
			continue
		}
		if r, e := trace.New(c.p, c.e); e != c.want || r != nil {
			t.Errorf("%s: New = %v, %v, want %v", c.name, r, e, c.want)
		}
	}
	var none *trace.Recorder
	if n, e := none.Forth(-1); n != 0 || e != api.ErrArgument {
		t.Errorf("Forth of nil = %d, %v", n, e)
	}
	if i, e := none.To(make([]trace.Stop, 101), -1); i != 0 || e != api.ErrArgument {
		t.Errorf("To of nil = %d, %v", i, e)
	}
	if s := none.State(); len(s.Field) != 0 || none.Back(1) != 0 || len(none.Events()) != 0 {
		t.Error("a nil recorder has something")
	}
}

// TestMemory changes what was given and what was told; the recorder does not.
func TestMemory(t *testing.T) {
	p, e := program(t, "F { e.1 = <Br 'k=' e.1> (e.1) <Prout o>; }"), parsed(t, "<F (a)>")
	r, _ := trace.New(p, e)
	p.Functions[0].Sentences[0].Right[0].Text = "X"
	p.Functions[0].Name = "X"
	e[0].Kids[0].Kids[0].Text = "X"
	r.Forth(9)
	s := r.State()
	s.Field[0].Kids[0].Kids[0].Text = "X"
	s.Store.Output[0] = "X"
	s.Store.Buried[0].Key[0].Text = "X"
	s.Store.Buried[0].Value[0].Kids[0].Text = "X"
	for _, x := range r.Events() {
		for _, l := range [][]api.Term{x.Argument, x.Result} {
			for i := range l {
				l[i].Text = "X"
			}
		}
		for i := range x.Bindings {
			x.Bindings[i].Value[0].Text = "X"
		}
	}
	at(t, r, "((a))", 3)
	st := r.State().Store
	if got := text(st.Buried[0].Key) + text(st.Buried[0].Value) + st.Output[0]; got != "'k'(a)o" {
		t.Errorf("the store is %s", got)
	}
	if got := eventsText(r.Events()); got != "F((a)) 0 e.1[(a)] -> <Br 'k=' (a)> ((a)) <Prout o>; Br('k=' (a)) -1 -> ; Prout(o) -1 -> " {
		t.Errorf("Events = %s", got)
	}
	r.Back(2)
	at(t, r, "<Br 'k=' (a)> ((a)) <Prout o>", 1)
	if code := field.Check(r.State()); code != api.OK {
		t.Errorf("the state has the error %v", code)
	}
}
