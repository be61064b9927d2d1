package types

import (
	"fmt"
	"strings"
	"testing"

	"chiasmus/api"
	"chiasmus/check"
	"chiasmus/regular"
)

// line returns an automaton that accepts so many characters less one.
func line(states int) regular.Automaton {
	a := regular.Automaton{States: states, Final: []int{states - 1}}
	for q := range states - 1 {
		a.Edges = append(a.Edges, edge(q, q+1, regular.Chars, 0))
	}
	return a
}

// words returns an automaton of one word, of so many ones.
func words(count int) regular.Automaton {
	a := regular.Automaton{States: 2, Final: []int{1}}
	for i := range count {
		a.Edges = append(a.Edges, one(0, 1, fmt.Sprint("A", i)))
	}
	return a
}

// wrong returns automata with errors.
func wrong() map[api.Errno]regular.Automaton {
	return map[api.Errno]regular.Automaton{api.ErrCount: {States: 401}, regular.ErrAutomaton: {}}
}

func TestVariablesErrors(t *testing.T) {
	unused := line(100)
	unused.States = 400
	for _, c := range []struct {
		pattern string
		a       regular.Automaton
		want    api.Errno
	}{
		{"A", regular.Automaton{}, regular.ErrAutomaton},
		{"e.1 e.2", regular.Automaton{}, api.ErrStrict},
		{"A", regular.Automaton{States: 401}, api.ErrCount},
		{"s.1 e.2", line(200), api.OK},
		{"s.1 e.2", line(201), api.ErrLarge},
		{"s.1 e.2", unused, api.OK}, // Trim of it counts
		{"(s.1) e.2", line(201), api.OK},
		{"s.1" + strings.Repeat(" 'a'", 397), line(399), api.ErrLarge},
		{"s.1" + strings.Repeat(" 'a'", 396), line(398), api.OK},
		{"s.1", words(2000), api.OK},
		{"s.1", words(2001), api.ErrLarge},
		{"e.1", words(2000), api.OK},
		{"e.1", words(2001), api.ErrLarge},
		{"s.1", regular.Automaton{States: 399}, api.OK},
	} {
		l, ok, e := Variables(parsed(t, c.pattern), c.a)
		if e != c.want || e != api.OK && (len(l) > 0 || ok) {
			t.Errorf("Variables(%.20s) of %.40s = %d, %v, %v, want %v", c.pattern, describe(c.a), len(l), ok, e, c.want)
		}
	}
	// the union of too many, where each one is not too large: 14 times 30 states
	wide := regular.Automaton{States: 44, Final: []int{43}}
	for i := range 14 {
		wide.Edges = append(wide.Edges, one(0, i+1, fmt.Sprint("A", i)))
	}
	for q := 1; q < 43; q++ {
		wide.Edges = append(wide.Edges, edge(q, q+1, regular.Chars, 0))
	}
	if l, ok, e := Variables(parsed(t, "s.1 e.2"), wide); len(l) > 0 || ok || e != api.ErrLarge {
		t.Errorf("Variables of many beginnings = %d, %v, %v, want ErrLarge", len(l), ok, e)
	}
	// Both of occurrences of a variable
	except := func(prefix string, count int) []api.Term {
		var l []api.Term
		for i := range count {
			l = append(l, api.Term{Kind: api.Word, Text: fmt.Sprint(prefix, 100+i)})
		}
		return l
	}
	for count, want := range map[int]api.Errno{50: api.OK, 51: api.ErrLarge} {
		a := regular.Automaton{States: 3, Final: []int{2}, Edges: []regular.Edge{{To: 1, Kind: regular.Words, Except: except("a", 50)}, {From: 1, To: 2, Kind: regular.Words, Except: except("b", count)}}}
		if _, ok, e := Variables(parsed(t, "s.1 s.1"), a); ok != (want == api.OK) || e != want {
			t.Errorf("Variables with %d and 50 exceptions = %v, %v, want %v", count, ok, e, want)
		}
		if _, ok, e := Variables(parsed(t, "s.1 s.2"), a); !ok || e != api.OK {
			t.Errorf("Variables with %d and 50 exceptions = %v, %v", count, ok, e)
		}
	}
}

func TestOf(t *testing.T) {
	variables := []Variable{{"s.x", of(t, "A | B")}, {"e.x", of(t, "Star A")}, {"e.x", of(t, "B")}, {"t.x", of(t, "(s.1)")}, {"no name", regular.Any()}}
	functions := []Type{
		{"F", of(t, "Star A"), of(t, "'f'")},
		{"G", of(t, "'f' e.1"), of(t, "Star A")},
		{"F", of(t, ""), of(t, "")},
		{"Nothing", regular.Automaton{States: 1}, of(t, "A")},
		{"Never", regular.Any(), regular.Automaton{States: 1}},
	}
	for _, c := range []struct {
		e    string
		want string // a type, which is equal
		path string
		v    string
		code api.Errno
	}{
		{"", "", "[]", "", api.OK},
		{"A (s.x) e.x", "A (A) Star | A (B) Star", "[]", "", api.OK},
		{"s.x s.x", "A A | A B | B A | B B", "[]", "", api.OK},
		{"t.x", "(s.1)", "[]", "", api.OK},
		{"<F A A> <F>", "'f' 'f'", "[]", "", api.OK},
		{"<G <F e.x> t.x>", "Star A", "[]", "", api.OK},
		{"(<F A>) <F <G <F>>>", "('f') 'f'", "[]", "", api.OK},
		{"<Never s.x> A", "none", "[]", "", api.OK},
		{"<F <Never>>", "'f'", "[]", "", api.OK},
		{"<Nothing <Never>>", "A", "[]", "", api.OK},
		{"A <F B>", "", "[1]", "B", ErrCall},
		{"A (<F s.x>)", "", "[1 0]", "B", ErrCall},
		{"<F A <F>>", "", "[0]", "A 'f'", ErrCall},
		{"<F <G>>", "", "[0 0]", "", ErrCall},
		{"(A <F e.x>) <G <F A> e.x <F (<G 'g'>) A>>", "", "[1 2 0 0]", "'g'", ErrCall},
		{"<G <F <F A>>> <F B>", "", "[0 0]", "'f'", ErrCall}, // in order: the first one that is wrong
		{"<F B <F C>>", "", "[0 1]", "C", ErrCall},
		{"<Nothing>", "", "[0]", "", ErrCall},
		{"<F t.x>", "", "[0]", "('a')", ErrCall},
		{"s.y", "", "[]", "", ErrDeclare},
		{"<F B s.y>", "", "[]", "", ErrDeclare},
		{"<F B> (<H>)", "", "[]", "", ErrDeclare},
		{"s.1 <F B>", "", "[]", "", ErrDeclare},
	} {
		a, path, v, e := Of(parsed(t, c.e), variables, functions)
		if fmt.Sprint(path) != c.path || text(v) != c.v || e != c.code {
			t.Errorf("Of(%s) = %v, %s, %v, want %s, %s, %v", c.e, path, text(v), e, c.path, c.v, c.code)
		}
		if e != api.OK {
			if !none(a) {
				t.Errorf("Of(%s) = %s with the error %v", c.e, describe(a), e)
			}
			continue
		}
		var want regular.Automaton
		switch c.want {
		case "A (A) Star | A (B) Star":
			want = must(t)(regular.Concat(of(t, "A (A) | A (B)"), of(t, "Star A")))
		case "none":
			want = regular.Automaton{States: 1}
		default:
			want = of(t, c.want)
		}
		if !sameTypes(t, a, want) {
			t.Errorf("Of(%s) = %s, want %s", c.e, describe(a), c.want)
		}
	}
	// it is built term by term
	a, _, _, e := Of(parsed(t, "s.x (e.x) <F>"), variables, functions)
	want := must(t)(regular.Concat(must(t)(regular.Exactly(nil)), variables[0].Type))
	inner := must(t)(regular.Concat(must(t)(regular.Exactly(nil)), variables[1].Type))
	want = must(t)(regular.Concat(want, must(t)(regular.Wrap(inner))))
	want = must(t)(regular.Concat(want, functions[0].Result))
	if describe(a) != describe(want) || e != api.OK {
		t.Errorf("Of = %s, %v, want %s", describe(a), e, describe(want))
	}
}

// sameTypes reports whether two automata accept the same values.
func sameTypes(t *testing.T, a, b regular.Automaton) bool {
	t.Helper()
	ab, _, e := regular.Within(a, b)
	ba, _, f := regular.Within(b, a)
	if e != api.OK || f != api.OK {
		t.Fatalf("Within = %v, %v", e, f)
	}
	return ab && ba
}

func TestOfErrors(t *testing.T) {
	right := regular.Any()
	for want, a := range wrong() {
		other := wrong()[api.ErrCount]
		if want == api.ErrCount {
			other = wrong()[regular.ErrAutomaton]
		}
		for name, c := range map[string]struct {
			e         string
			variables []Variable
			functions []Type
		}{
			"a variable":                   {"s.1", []Variable{{"s.1", right}, {"s.2", a}, {"s.3", other}}, []Type{{"F", other, other}}},
			"an argument":                  {"s.1", nil, []Type{{"F", right, right}, {"F", a, other}}},
			"a result":                     {"s.1", nil, []Type{{"F", right, a}, {"G", other, right}}},
			"of one that is not the first": {"<F>", nil, []Type{{"F", right, right}, {"F", right, a}}},
		} {
			b, path, v, e := Of(parsed(t, c.e), c.variables, c.functions)
			if !none(b) || len(path) > 0 || len(v) > 0 || e != want {
				t.Errorf("Of with a wrong type of %s = %s, %v, %v, %v, want %v", name, describe(b), path, v, e, want)
			}
		}
		for _, e := range [][]api.Term{make([]api.Term, 4001), {{Kind: api.Call, Text: "1"}}} {
			_, _, _, code := Of(e, []Variable{{"e.1", a}}, nil)
			if len(e) == 1 && code != api.ErrForm || len(e) > 1 && code != api.ErrCount {
				t.Errorf("Of = %v", code)
			}
		}
	}
	for _, c := range []struct {
		e    string
		arg  regular.Automaton
		want api.Errno
	}{
		{symbols(199), right, api.OK},
		{symbols(200), right, api.ErrLarge},
		{"<F " + symbols(200) + ">", right, api.ErrLarge},
		{"<F A>", words(101), api.ErrLarge}, // Not of it
		{"<F A>", words(100), ErrCall},      // A is none of A0, A1 ..
		{"<F <F A>>" + symbols(200), of(t, "e.1"), api.ErrLarge},
		{"<F A> " + symbols(200), of(t, "B"), ErrCall},
		{"<F A> <F " + symbols(200) + ">", of(t, "B"), ErrCall},
		{"<F " + symbols(200) + "> <F A>", of(t, "B"), api.ErrLarge},
	} {
		a, path, _, e := Of(parsed(t, c.e), nil, []Type{{"F", c.arg, right}})
		if e != c.want || none(a) != (e != api.OK) || (len(path) > 0) != (e == ErrCall) {
			t.Errorf("Of(%.20s) = %v, %v, want %v", c.e, path, e, c.want)
		}
	}
}

// faultsText returns the text of faults.
func faultsText(l []Fault) string {
	var items []string
	for _, f := range l {
		items = append(items, fmt.Sprintf("%d %d %v %d %s", f.Function, f.Sentence, f.Path, int(f.Code), text(f.Value)))
	}
	return strings.Join(items, "; ")
}

func TestCheckFaults(t *testing.T) {
	const example = "F { = A; s.x e.y = <F e.y>; }"
	for _, c := range []struct {
		p, arg, result string
		want           string
	}{
		{example, "e.1", "A", "0 -1 [] 261 ()"},
		{example, "Star s.1", "A", ""},
		{example, "Star s.1", "B", "0 0 [] 263 A"},
		{example, "Star s.1", "s.1", ""},
		{example, "Star A", "A", ""},
		{example, "A | B", "A", "0 1 [0] 262 "}, // the first sentence is passed over
		{example, "", "A", ""},                  // the second one is
		{"F { = <F A>; s.x = B; }", "", "C", "0 0 [0] 262 A"},
		{"F { = B; s.x = <F s.x s.x>; }", "Star A", "B", "0 -1 [] 261 A A"},
		{"F { = B; s.x e.y = s.x <F e.y>; }", "Star A", "Star A | B", "0 1 [] 263 A B"},
		// what is left is what sentences ahead do not take
		{"F { A e.x = A; e.x = <F A e.x>; }", "Star s.1", "A", ""},
		{"F { A e.x = A; e.x = e.x; }", "A | B", "A | B", ""},
		{"F { A e.x = A; e.x = e.x; }", "A | B", "A", "0 1 [] 263 B"},
		{"F { A e.x = A; s.y e.x = s.y; }", "A e.1 | B", "A", "0 1 [] 263 B"},
		{"F { A e.x = A; s.y e.x = s.y; }", "A e.1 | B", "B", "0 0 [] 263 A"},
		{"F { e.x = A; e.x = B; }", "e.1", "A", ""},
		// a repeated variable leaves all
		{"F { s.x s.x = A; s.x s.y = A; }", "s.1 s.2", "A", ""},
		{"F { s.x s.x = A; }", "s.1 s.2", "A", "0 -1 [] 261 'aa'"},
		{"F { s.x s.x = A; }", "A A", "A", "0 -1 [] 261 A A"},
		{"F { s.x s.x = s.x; s.x s.y = B; }", "A B", "B", ""}, // no value of both occurrences
		{"F { s.x s.x = s.x; s.x s.y = B; }", "A A | A B", "B", "0 0 [] 263 A"},
		{"F { (e.x) e.y = e.x <F e.y>; s.x = s.x; = ; }", "Star (A)", "Star A", ""},
		{"F { (e.x) e.y = e.x <F e.y>; s.x = s.x; = ; }", "Star (A)", "A", "0 0 [] 263 A A; 0 2 [] 263 "},
		// two functions
		{"F { A = <G A>; } G { B = <F B>; }", "A", "A", "1 -1 [] 261 A"},
		{"F { A = <G A B>; B = ; } G { A = <F A>; }", "A", "A", "0 0 [0] 262 A B"},
		{"F { A = (<G (<F B>)>); } G { A = ; }", "A", "A", "0 0 [0 0 0 0] 262 B; 1 0 [] 263 "},
	} {
		p := program(t, c.p)
		var l []Type
		for _, f := range p.Functions {
			l = append(l, Type{f.Name, of(t, c.arg), of(t, c.result)})
		}
		faults, e := Check(p, l)
		if faultsText(faults) != c.want || e != api.OK {
			t.Errorf("Check(%s) with %s and %s = %s, %v, want %s", c.p, c.arg, c.result, faultsText(faults), e, c.want)
		}
	}
}

// A fault of a sentence does not change what is left behind it; a function without arguments has no faults.
func TestBehindFaults(t *testing.T) {
	p := program(t, "F { A = <F B>; A = C; e.1 = A; } G { e.1 = <F A>; }")
	f := Type{"F", of(t, "A | C"), of(t, "A")}
	l, e := Check(p, []Type{f, {"G", regular.Automaton{States: 1}, of(t, "A")}})
	if want := "0 0 [0] 262 B"; faultsText(l) != want || e != api.OK {
		t.Errorf("Check = %s, %v, want %s", faultsText(l), e, want)
	}
	if l, e := Check(api.Program{}, nil); len(l) > 0 || e != api.OK {
		t.Errorf("Check of no program = %v, %v", l, e)
	}
}

func TestProgramErrors(t *testing.T) {
	any := regular.Any()
	f := Type{"F", any, any}
	many := func(s string) api.Program { return program(t, "F { "+s+" }") }
	for name, c := range map[string]struct {
		p    api.Program
		l    []Type
		want api.Errno
	}{
		"an error":           {api.Program{Functions: []api.Function{{Name: "F", Sentences: []api.Sentence{{Right: parsed(t, "e.1 <G>"), Tests: make([]api.Test, 1)}}}}}, nil, check.ErrUnbound},
		"conditions":         {many("e.1 A e.2, e.1 : A = <G>;"), nil, api.ErrCore},
		"a block":            {many("e.1, e.1 : { = ; };"), []Type{f}, api.ErrCore},
		"another function":   {many("e.1 A e.2 = <Add>;"), nil, api.ErrPure},
		"a choice":           {many("e.1 A e.2 = ;"), nil, api.ErrStrict},
		"no declaration":     {many("= ;"), nil, ErrDeclare},
		"two":                {many("= ;"), []Type{f, f}, ErrDeclare},
		"another name":       {many("= ;"), []Type{{"G", any, any}}, ErrDeclare},
		"a wrong argument":   {many("= ;"), []Type{{"F", regular.Automaton{}, any}}, ErrDeclare},
		"a wrong result":     {many("= ;"), []Type{{"F", any, regular.Automaton{States: 401}}}, ErrDeclare},
		"a large pattern":    {many(symbols(200) + " = ;"), []Type{f}, api.ErrLarge},
		"a large result":     {many("= " + symbols(200) + ";"), []Type{f}, api.ErrLarge},
		"a large call":       {many("= <F " + symbols(200) + ">;"), []Type{f}, api.ErrLarge},
		"one passed over":    {many("e.1 = ; = " + symbols(200) + ";"), []Type{{"F", any, of(t, "")}}, api.OK},
		"a large one over":   {many("e.1 = ; " + symbols(200) + " = ;"), []Type{f}, api.ErrLarge},
		"a large negation":   {many("= ;"), []Type{{"F", any, words(101)}}, api.ErrLarge},
		"a large variable":   {many("s.1 e.2 = ;"), []Type{{"F", line(201), any}}, api.ErrLarge},
		"a large least gap":  {many("= ;"), []Type{{"F", doubled(), any}}, api.ErrLarge},
		"a large least case": {many("e.1 = ;"), []Type{{"F", doubled(), any}}, api.ErrLarge},
	} {
		faults, e := Check(c.p, c.l)
		if e != c.want || len(faults) > 0 {
			t.Errorf("Check of a program with %s = %s, %v, want %v", name, faultsText(faults), e, c.want)
		}
		if c.want == api.ErrLarge || c.want == api.OK {
			continue
		}
		if faults, e := Overlaps(c.p, c.l, -1); e != c.want || len(faults) > 0 {
			t.Errorf("Overlaps of a program with %s = %s, %v, want %v", name, faultsText(faults), e, c.want)
		}
	}
}

// doubled returns an automaton whose least value has more than 4000 terms.
func doubled() regular.Automaton {
	a := regular.Automaton{States: 37, Final: []int{36}}
	for i := range 12 {
		a.Edges = append(a.Edges, nest(3*i, 3*i+3, 3*i+1), nest(3*i+1, 3*i+3, 36))
	}
	return a
}

func TestOverlaps(t *testing.T) {
	for _, c := range []struct {
		p, arg, want string
	}{
		{"= ; s.x e.y = ;", "e.1", ""},
		{"= ; e.x = ;", "e.1", "1 0 [1] 0 "},
		{"= ; e.x = ;", "s.1 e.2", ""},
		{"A e.1 = ; e.1 A = ; e.1 = ; A A A = ;", "e.1", "1 0 [1] 0 A; 1 0 [2] 0 A; 1 0 [3] 0 A A A; 1 1 [2] 0 A; 1 1 [3] 0 A A A; 1 2 [3] 0 A A A"},
		{"A e.1 = ; e.1 A = ; e.1 = ; A A A = ;", "A s.1", "1 0 [1] 0 A A; 1 0 [2] 0 A 'a'; 1 1 [2] 0 A A"},
		{"s.x s.x = ; s.x s.y = ; e.1 = ; (s.x s.x) = ;", "e.1", "1 1 [2] 0 'aa'"},
		{"(e.1) e.2 = ; (A) (B) = ; (e.1 A) = ;", "e.1", "1 0 [1] 0 (A) (B); 1 0 [2] 0 (A)"},
		{"= ;", "e.1", ""},
	} {
		p := program(t, "G { e.1 = ; e.1 = ; } F { "+c.p+" }")
		l := []Type{{"G", regular.Any(), regular.Any()}, {"F", of(t, c.arg), regular.Any()}}
		faults, e := Overlaps(p, l, 1)
		if faultsText(faults) != c.want || e != api.OK {
			t.Errorf("Overlaps of %s with %s = %s, %v, want %s", c.p, c.arg, faultsText(faults), e, c.want)
		}
	}
}

func TestOverlapsErrors(t *testing.T) {
	any := regular.Any()
	for _, c := range []struct {
		p        string
		arg      regular.Automaton
		function int
		want     api.Errno
	}{
		{"= ;", any, 0, api.OK},
		{"= ;", any, 1, api.ErrRange},
		{"= ;", any, -1, api.ErrRange},
		{symbols(200) + " = ; = ;", any, 0, api.ErrLarge},
		{"= ; " + symbols(200) + " = ;", any, 0, api.ErrLarge},
		{"= ; " + symbols(200) + " s.1 s.1 = ;", any, 0, api.OK}, // no pair
		{symbols(200) + " = ;", any, 0, api.OK},
		{"e.1 = ; e.1 = ;", doubled(), 0, api.ErrLarge},
		{symbols(100) + " = ; e.1 = ;", line(199), 0, api.OK},
	} {
		faults, e := Overlaps(program(t, "F { "+c.p+" }"), []Type{{"F", c.arg, any}}, c.function)
		if e != c.want || e != api.OK && len(faults) > 0 {
			t.Errorf("Overlaps of %.20s = %s, %v, want %v", c.p, faultsText(faults), e, c.want)
		}
	}
}
