package regular

import (
	"slices"
	"strconv"
	"strings"
	"testing"

	"chiasmus/api"
	"chiasmus/term"
)

func parsed(t *testing.T, s string) []api.Term {
	t.Helper()
	l, at, e := term.Parse(s)
	if e != api.OK {
		t.Fatalf("Parse(%q) = %d, %v", s, at, e)
	}
	return l
}

func text(l []api.Term) string {
	s, e := term.Text(l)
	if e != api.OK {
		return "error " + e.Error()
	}
	return s
}

// text returns that of an automaton: its states, its start, its final states, and its edges.
func (a Automaton) text() string {
	items := []string{strconv.Itoa(a.States) + " states", "from " + strconv.Itoa(a.Start), "to"}
	for _, q := range a.Final {
		items = append(items, strconv.Itoa(q))
	}
	s := strings.Join(items, " ")
	for _, x := range a.Edges {
		s += "; " + strconv.Itoa(x.From) + x.label() + strconv.Itoa(x.To)
	}
	return s
}

// label returns the text of what an edge reads.
func (x Edge) label() string {
	s := " ? "
	switch x.Kind {
	case One:
		s = text([]api.Term{x.Symbol})
	case Chars:
		s = "c"
	case Words:
		s = "w"
	case Numbers:
		s = "n"
	case Nest:
		s = "(" + strconv.Itoa(x.Inner) + ")"
	}
	if len(x.Except) > 0 {
		s += " but " + text(x.Except)
	}
	return " " + s + " "
}

// must returns an automaton that must have no error.
func must(t *testing.T, what string) func(Automaton, api.Errno) Automaton {
	return func(a Automaton, e api.Errno) Automaton {
		t.Helper()
		if e != api.OK {
			t.Fatalf("%s = %v", what, e)
		}
		if e := Check(a); e != api.OK {
			t.Fatalf("Check of %s, which is %s, = %v", what, a.text(), e)
		}
		return a
	}
}

// exactly returns the automaton of a value with a text.
func exactly(t *testing.T, s string) Automaton {
	t.Helper()
	return must(t, "Exactly of "+s)(Exactly(parsed(t, s)))
}

func char(s string) api.Term { return api.Term{Kind: api.Char, Text: s} }

func word(s string) api.Term { return api.Term{Kind: api.Word, Text: s} }

// symbols returns so many words.
func symbols(count int) []api.Term {
	var l []api.Term
	for i := range count {
		l = append(l, word(strconv.Itoa(1000+i)))
	}
	return l
}

// someWords accepts words without so many of them.
func someWords(except int) Automaton {
	return Automaton{States: 2, Final: []int{1}, Edges: []Edge{{To: 1, Kind: Words, Except: symbols(except)}}}
}

// line returns an automaton of so many states that accepts a value of characters.
func line(states int) Automaton {
	a := Automaton{States: states, Final: []int{states - 1}}
	for q := range states - 1 {
		a.Edges = append(a.Edges, Edge{From: q, To: q + 1, Kind: Chars})
	}
	return a
}

// wide returns an automaton with so many edges between two states.
func wide(edges int) Automaton {
	a := Automaton{States: 2, Final: []int{1}}
	for i := range edges {
		a.Edges = append(a.Edges, Edge{To: 1, Kind: One, Symbol: api.Term{Kind: api.Number, Text: strconv.Itoa(i)}})
	}
	return a
}

// with returns an automaton of two states with an edge.
func with(x Edge) Automaton {
	return Automaton{States: 2, Final: []int{1}, Edges: []Edge{{To: 1, Kind: Chars}, x}}
}

// wrong returns automata that are not right, with their errors.
func wrong() map[string]struct {
	a    Automaton
	want api.Errno
} {
	a, b := char("a"), char("b")
	return map[string]struct {
		a    Automaton
		want api.Errno
	}{
		"401 states":                     {Automaton{States: 401}, api.ErrCount},
		"401 states, wrong start":        {Automaton{States: 401, Start: -1}, api.ErrCount},
		"401 final states":               {Automaton{States: 1, Final: make([]int, 401)}, api.ErrCount},
		"4001 edges":                     {Automaton{States: 1, Edges: make([]Edge, 4001)}, api.ErrCount},
		"101 exceptions":                 {someWords(101), api.ErrCount},
		"101 exceptions behind wrong":    {Automaton{Edges: []Edge{{}, {Except: make([]api.Term, 101)}}}, api.ErrCount},
		"nothing":                        {Automaton{}, ErrAutomaton},
		"states below 0":                 {Automaton{States: -1}, ErrAutomaton},
		"start below 0":                  {Automaton{States: 1, Start: -1}, ErrAutomaton},
		"start behind":                   {Automaton{States: 1, Start: 1}, ErrAutomaton},
		"final below 0":                  {Automaton{States: 2, Final: []int{-1, 1}}, ErrAutomaton},
		"final behind":                   {Automaton{States: 2, Final: []int{1, 2}}, ErrAutomaton},
		"final twice":                    {Automaton{States: 2, Final: []int{1, 1}}, ErrAutomaton},
		"final descends":                 {Automaton{States: 2, Final: []int{1, 0}}, ErrAutomaton},
		"from below 0":                   {with(Edge{From: -1, Kind: Words}), ErrAutomaton},
		"from behind":                    {with(Edge{From: 2, Kind: Words}), ErrAutomaton},
		"to below 0":                     {with(Edge{To: -1, Kind: Words}), ErrAutomaton},
		"to behind":                      {with(Edge{To: 2, Kind: Words}), ErrAutomaton},
		"no kind":                        {with(Edge{}), ErrAutomaton},
		"no kind, with a symbol":         {with(Edge{Symbol: a}), ErrAutomaton},
		"kind 6":                         {with(Edge{Kind: 6}), ErrAutomaton},
		"kind -1":                        {with(Edge{Kind: -1}), ErrAutomaton},
		"one without a symbol":           {with(Edge{Kind: One}), ErrAutomaton},
		"one group":                      {with(Edge{Kind: One, Symbol: api.Term{Kind: api.Group}}), ErrAutomaton},
		"one variable":                   {with(Edge{Kind: One, Symbol: api.Term{Kind: api.SVar, Text: "1"}}), ErrAutomaton},
		"one wrong symbol":               {with(Edge{Kind: One, Symbol: char("ab")}), ErrAutomaton},
		"one with kids":                  {with(Edge{Kind: One, Symbol: api.Term{Kind: api.Char, Text: "a", Kids: []api.Term{a}}}), ErrAutomaton},
		"one with exceptions":            {with(Edge{Kind: One, Symbol: a, Except: []api.Term{b}}), ErrAutomaton},
		"one with an inner state":        {with(Edge{Kind: One, Symbol: a, Inner: 1}), ErrAutomaton},
		"characters with a symbol":       {with(Edge{Kind: Chars, Symbol: a}), ErrAutomaton},
		"words with a text":              {with(Edge{Kind: Words, Symbol: api.Term{Text: "a"}}), ErrAutomaton},
		"numbers with kids":              {with(Edge{Kind: Numbers, Symbol: api.Term{Kids: []api.Term{a}}}), ErrAutomaton},
		"characters with an inner state": {with(Edge{Kind: Chars, Inner: 1}), ErrAutomaton},
		"words but a character":          {with(Edge{Kind: Words, Except: []api.Term{a}}), ErrAutomaton},
		"characters but a word":          {with(Edge{Kind: Chars, Except: []api.Term{word("a")}}), ErrAutomaton},
		"numbers but a word":             {with(Edge{Kind: Numbers, Except: []api.Term{word("1")}}), ErrAutomaton},
		"numbers but a wrong number":     {with(Edge{Kind: Numbers, Except: []api.Term{{Kind: api.Number, Text: "01"}}}), ErrAutomaton},
		"exceptions descend":             {with(Edge{Kind: Chars, Except: []api.Term{b, a}}), ErrAutomaton},
		"exceptions twice":               {with(Edge{Kind: Chars, Except: []api.Term{a, a}}), ErrAutomaton},
		"numbers by their values":        {with(Edge{Kind: Numbers, Except: []api.Term{{Kind: api.Number, Text: "9"}, {Kind: api.Number, Text: "10"}}}), ErrAutomaton},
		"brackets with a symbol":         {with(Edge{Kind: Nest, Symbol: a}), ErrAutomaton},
		"brackets with exceptions":       {with(Edge{Kind: Nest, Except: []api.Term{a}}), ErrAutomaton},
		"inner below 0":                  {with(Edge{Kind: Nest, Inner: -1}), ErrAutomaton},
		"inner behind":                   {with(Edge{Kind: Nest, Inner: 2}), ErrAutomaton},
		"a wrong edge behind":            {Automaton{States: 1, Edges: []Edge{{Kind: Nest}, {Kind: Words}, {Kind: 7}}}, ErrAutomaton},
	}
}

func TestCheck(t *testing.T) {
	for name, c := range wrong() {
		if e := Check(c.a); e != c.want {
			t.Errorf("Check of one with %s = %v, want %v", name, e, c.want)
		}
	}
	all := make([]int, 400)
	for i := range all {
		all[i] = i
	}
	for name, a := range map[string]Automaton{
		"a state":                   {States: 1},
		"400 states":                {States: 400, Start: 399, Final: all},
		"4000 edges":                wide(4000),
		"100 exceptions":            someWords(100),
		"any":                       Any(),
		"an edge twice":             with(Edge{To: 1, Kind: Chars}),
		"numbers by their texts":    with(Edge{Kind: Numbers, Except: []api.Term{{Kind: api.Number, Text: "-1"}, {Kind: api.Number, Text: "10"}, {Kind: api.Number, Text: "9"}}}),
		"empty lists":               {States: 1, Final: []int{}, Edges: []Edge{{Kind: One, Symbol: api.Term{Kind: api.Word, Text: "a", Kids: []api.Term{}}, Except: []api.Term{}}}},
		"a symbol of no kids":       with(Edge{Kind: Chars, Symbol: api.Term{Kids: []api.Term{}}}),
		"a character of a byte 255": with(Edge{Kind: One, Symbol: char("\xff")}),
	} {
		if e := Check(a); e != api.OK {
			t.Errorf("Check of %s = %v", name, e)
		}
	}
}

// TestArguments has the errors of automata in the order of the parameters.
func TestArguments(t *testing.T) {
	right, large := Any(), make([]api.Term, 4001)
	none := func(a Automaton) bool { return a.States == 0 && a.Start == 0 && len(a.Final) == 0 && len(a.Edges) == 0 }
	for name, c := range wrong() {
		other, first := Automaton{}, c.want
		if c.want == ErrAutomaton {
			other = Automaton{States: 401}
		}
		for what, op := range map[string]func(a Automaton) (Automaton, api.Errno){
			"Trim": Trim, "Wrap": Wrap, "Star": Star, "Not": Not,
			"Concat":       func(a Automaton) (Automaton, api.Errno) { return Concat(a, other) },
			"Concat right": func(a Automaton) (Automaton, api.Errno) { return Concat(right, a) },
			"Union":        func(a Automaton) (Automaton, api.Errno) { return Union(a, other) },
			"Union right":  func(a Automaton) (Automaton, api.Errno) { return Union(right, a) },
			"Both":         func(a Automaton) (Automaton, api.Errno) { return Both(a, other) },
			"Both right":   func(a Automaton) (Automaton, api.Errno) { return Both(right, a) },
		} {
			if a, e := op(c.a); !none(a) || e != first {
				t.Errorf("%s of one with %s = %v, %v, want %v", what, name, a, e, first)
			}
		}
		if ok, e := Has(c.a, large); ok || e != first {
			t.Errorf("Has of one with %s = %v, %v, want %v", name, ok, e, first)
		}
		if v, ok, e := Least(c.a); len(v) > 0 || ok || e != first {
			t.Errorf("Least of one with %s = %v, %v, %v, want %v", name, v, ok, e, first)
		}
		for _, in := range [][2]Automaton{{c.a, other}, {c.a, right}, {right, c.a}} {
			if ok, v, e := Within(in[0], in[1]); ok || len(v) > 0 || e != first {
				t.Errorf("Within of one with %s = %v, %v, %v, want %v", name, ok, v, e, first)
			}
		}
	}
	for _, c := range []struct {
		v    []api.Term
		want api.Errno
	}{{large, api.ErrCount}, {parsed(t, "A s.1"), api.ErrForm}, {parsed(t, strings.Repeat("(", 100)+strings.Repeat(")", 100))[0].Kids, api.OK}} {
		if ok, e := Has(right, c.v); ok != (c.want == api.OK) || e != c.want {
			t.Errorf("Has = %v, %v, want %v", ok, e, c.want)
		}
		if _, e := Exactly(c.v); e != c.want {
			t.Errorf("Exactly = %v, want %v", e, c.want)
		}
	}
}

func TestHas(t *testing.T) {
	a := Automaton{States: 5, Start: 1, Final: []int{0, 3}, Edges: []Edge{
		{From: 1, To: 2, Kind: Chars, Except: []api.Term{char("b"), char("c")}},
		{From: 1, To: 3, Kind: One, Symbol: char("b")},
		{From: 2, To: 2, Kind: Words, Except: []api.Term{word("A")}},
		{From: 2, To: 3, Kind: Nest, Inner: 1},
		{From: 2, To: 4, Kind: Nest, Inner: 3},
		{From: 3, To: 1, Kind: Numbers, Except: []api.Term{{Kind: api.Number, Text: "7"}}},
		{From: 4, To: 0, Kind: One, Symbol: word("End")},
	}}
	for _, c := range []struct {
		v    string
		want bool
	}{
		{"", false}, {"'b'", true}, {"'a'", false}, {"'a' ('b')", true}, {"'c' ('b')", false}, {"'x' B C ('b')", true}, {"'x' B A ('b')", false},
		{"'a' ()", false}, {"'a' () End", true}, {"'a' () A", false}, {"'b' 1 'b'", true}, {"'b' 7 'b'", false}, {"'b' 1", false}, {"A ('b')", false},
		{"'a' ('z' ('b' 2 'b') 0 'b') 5 'b'", true}, {"'a' ('z' ('b' 2 'b') 0 'c') 5 'b'", false}, {"'a' (1) End", false}, {"'a' (1 'b') End", true},
		{"'a' (1 'b') 'End'", false}, {"'bb'", false}, {"('b')", false}, {"\"b\"", false},
	} {
		if ok, e := Has(a, parsed(t, c.v)); ok != c.want || e != api.OK {
			t.Errorf("Has(%s) = %v, %v, want %v", c.v, ok, e, c.want)
		}
	}
}

func TestTrim(t *testing.T) {
	edge := func(from, to int, s string) Edge { return Edge{From: from, To: to, Kind: One, Symbol: word(s)} }
	nest := func(from, inner, to int) Edge { return Edge{From: from, To: to, Kind: Nest, Inner: inner} }
	for _, c := range []struct {
		a    Automaton
		want string
	}{
		{Automaton{States: 1}, "1 states from 0 to"},
		{Automaton{States: 3, Start: 2, Final: []int{1}, Edges: []Edge{edge(0, 1, "A")}}, "1 states from 0 to"},
		{Automaton{States: 3, Start: 2, Final: []int{0, 2}}, "1 states from 0 to 0"},
		{Automaton{States: 4, Start: 3, Final: []int{1, 2}, Edges: []Edge{edge(3, 1, "A"), edge(3, 0, "B"), edge(2, 1, "C"), edge(1, 3, "D")}},
			"2 states from 1 to 0; 1 A 0; 0 D 1"},
		// equal edges, which are so without the numbers of the states that were there
		{Automaton{States: 2, Start: 1, Final: []int{1}, Edges: []Edge{edge(1, 1, "A"), edge(1, 1, "B"), edge(1, 1, "A")}}, "1 states from 0 to 0; 0 A 0; 0 B 0"},
		{Automaton{States: 1, Final: []int{0}, Edges: []Edge{{Kind: Chars}, {Kind: Words}, {Kind: Chars, Except: []api.Term{char("a")}}, {Kind: Chars}, nest(0, 0, 0), nest(0, 0, 0),
			{Kind: Chars, Except: []api.Term{char("a")}}, {Kind: One, Symbol: char("a")}, {Kind: One, Symbol: word("a")}, {Kind: One, Symbol: char("a")}}},
			"1 states from 0 to 0; 0 c 0; 0 w 0; 0 c but 'a' 0; 0 (0) 0; 0 'a' 0; 0 a 0"},
		// brackets need a value within, and reach it
		{Automaton{States: 4, Final: []int{3}, Edges: []Edge{nest(0, 1, 3), edge(1, 2, "A"), edge(2, 3, "B")}}, "4 states from 0 to 3; 0 (1) 3; 1 A 2; 2 B 3"},
		{Automaton{States: 4, Final: []int{3}, Edges: []Edge{nest(0, 1, 3), edge(1, 2, "A")}}, "1 states from 0 to"},
		{Automaton{States: 3, Final: []int{2}, Edges: []Edge{nest(0, 0, 2), nest(0, 1, 2), edge(0, 2, "A")}}, "2 states from 0 to 1; 0 (0) 1; 0 A 1"},
		{Automaton{States: 3, Final: []int{2}, Edges: []Edge{nest(0, 0, 2), nest(1, 1, 1)}}, "1 states from 0 to"},
		// what leads to a state that is alive, but by an edge that is not, does not reach it
		{Automaton{States: 4, Final: []int{2, 3}, Edges: []Edge{nest(0, 1, 2), edge(0, 3, "A"), edge(2, 3, "B")}}, "2 states from 0 to 1; 0 A 1"},
		{Automaton{States: 4, Final: []int{2, 3}, Edges: []Edge{nest(0, 2, 1), edge(0, 3, "A"), edge(2, 3, "B")}}, "2 states from 0 to 1; 0 A 1"},
	} {
		a := must(t, "Trim of "+c.a.text())(Trim(c.a))
		if a.text() != c.want {
			t.Errorf("Trim of %s = %s, want %s", c.a.text(), a.text(), c.want)
		}
	}
}

func TestBuilt(t *testing.T) {
	a := Automaton{States: 3, Start: 1, Final: []int{0, 1}, Edges: []Edge{
		{From: 1, To: 2, Kind: One, Symbol: word("A")}, {From: 2, To: 0, Kind: Nest, Inner: 1}, {From: 1, To: 0, Kind: Numbers}}}
	b := Automaton{States: 2, Start: 1, Final: []int{0}, Edges: []Edge{
		{From: 1, To: 0, Kind: Nest, Inner: 1}, {From: 0, To: 1, Kind: One, Symbol: char("b")}, {From: 1, To: 0, Kind: Chars}}}
	end := Automaton{States: 1, Final: []int{0}}
	check := func(what, want string) func(Automaton, api.Errno) {
		return func(a Automaton, e api.Errno) {
			t.Helper()
			if a.text() != want || e != api.OK {
				t.Errorf("%s = %s, %v, want %s", what, a.text(), e, want)
			}
		}
	}
	check("Any", "1 states from 0 to 0; 0 c 0; 0 w 0; 0 n 0; 0 (0) 0")(Any(), api.OK)
	check("Exactly of nothing", "1 states from 0 to 0")(Exactly(nil))
	check("Exactly", "9 states from 0 to 3 6 7 8; 0 'a' 1; 1 (4) 2; 4 (7) 5; 5 -5 6; 2 (8) 3")(Exactly(parsed(t, "'a' (() -5) ()")))
	check("Wrap", "5 states from 3 to 0 1 4; 1 A 2; 2 (1) 0; 1 n 0; 3 (1) 4")(Wrap(a))
	check("Wrap of nothing", "1 states from 0 to")(Wrap(Automaton{States: 1}))
	// 0 1 2 are a, 3 4 5 its copy for brackets, 6 7 b
	check("Concat", "8 states from 1 to 3 4 6; 1 A 2; 2 (4) 0; 1 n 0; 4 A 5; 5 (4) 3; 4 n 3; 7 (7) 6; 6 'b' 7; 7 c 6; 0 (7) 6; 0 c 6; 1 (7) 6; 1 c 6")(Concat(a, b))
	check("Concat the other way round", "7 states from 1 to 0 2 4 5; 1 (3) 0; 0 'b' 1; 1 c 0; 3 (3) 2; 2 'b' 3; 3 c 2; 5 A 6; 6 (5) 4; 5 n 4; 0 A 6; 0 n 4")(Concat(b, a))
	check("Concat of nothing and a", "4 states from 0 to 0 1 2; 2 A 3; 3 (2) 1; 2 n 1; 0 A 3; 0 n 1")(Concat(end, a))
	check("Concat of a and nothing", "6 states from 1 to 0 1 3 4; 1 A 2; 2 (4) 0; 1 n 0; 4 A 5; 5 (4) 3; 4 n 3")(Concat(a, end))
	check("Star", "6 states from 0 to 0 1 3 4; 0 A 2; 0 n 1; 2 (4) 1; 4 A 5; 5 (4) 3; 4 n 3; 1 A 2; 1 n 1")(Star(a))
	check("Star of b", "5 states from 0 to 0 1 3; 0 (4) 1; 0 c 1; 2 (4) 1; 1 'b' 2; 2 c 1; 4 (4) 3; 3 'b' 4; 4 c 3; 1 (4) 1; 1 c 1")(Star(b))
	check("Star of nothing", "1 states from 0 to 0")(Star(Automaton{States: 1}))
	check("Union", "6 states from 0 to 0 1 2 4; 0 A 3; 0 n 1; 0 (5) 4; 0 c 4; 2 A 3; 3 (2) 1; 2 n 1; 5 (5) 4; 4 'b' 5; 5 c 4")(Union(a, b))
	check("Union the other way round", "6 states from 0 to 0 1 3 4; 0 (2) 1; 0 c 1; 0 A 5; 0 n 3; 2 (2) 1; 1 'b' 2; 2 c 1; 4 A 5; 5 (4) 3; 4 n 3")(Union(b, a))
	check("Union of b and b", "5 states from 0 to 1 3; 0 (2) 1; 0 c 1; 0 (4) 3; 0 c 3; 2 (2) 1; 1 'b' 2; 2 c 1; 4 (4) 3; 3 'b' 4; 4 c 3")(Union(b, b))
}

// The example of the chapter.
func TestExample(t *testing.T) {
	star := must(t, "Star")(Star(exactly(t, "A")))
	for v, want := range map[string]bool{"": true, "A": true, "A A": true, "A A A A A": true, "B": false, "A B": false, "(A)": false, "'A'": false} {
		if ok, e := Has(star, parsed(t, v)); ok != want || e != api.OK {
			t.Errorf("Has(%s) = %v, %v, want %v", v, ok, e, want)
		}
	}
	if ok, v, e := Within(star, Any()); !ok || len(v) > 0 || e != api.OK {
		t.Errorf("Within of it and Any = %v, %v, %v", ok, v, e)
	}
	if ok, v, e := Within(Any(), star); ok || text(v) != "'a'" || e != api.OK {
		t.Errorf("Within of Any and it = %v, %s, %v", ok, text(v), e)
	}
}

func TestBoth(t *testing.T) {
	loop := func(l ...Edge) Automaton { return Automaton{States: 1, Final: []int{0}, Edges: l} }
	one := func(x api.Term) Edge { return Edge{Kind: One, Symbol: x} }
	but := func(kind int, l ...api.Term) Edge { return Edge{Kind: kind, Except: l} }
	a, b, c := char("a"), char("b"), char("c")
	for _, x := range []struct {
		a, b Automaton
		want string
	}{
		{Any(), Any(), "1 states from 0 to 0; 0 c 0; 0 w 0; 0 n 0; 0 (0) 0"},
		{loop(one(a), one(b)), loop(one(b), one(c), one(a)), "1 states from 0 to 0; 0 'a' 0; 0 'b' 0"},
		{loop(one(a)), loop(one(word("a"))), "1 states from 0 to 0"},
		{loop(one(a)), loop(but(Chars, b), but(Words)), "1 states from 0 to 0; 0 'a' 0"},
		{loop(one(b)), loop(but(Chars, b), but(Words)), "1 states from 0 to 0"},
		{loop(but(Chars, b), but(Words)), loop(one(word("b")), one(a), one(b)), "1 states from 0 to 0; 0 'a' 0; 0 b 0"},
		{loop(but(Chars, a, c)), loop(but(Chars, b, c), but(Numbers)), "1 states from 0 to 0; 0 c but 'abc' 0"},
		{loop(but(Chars)), loop(but(Chars, b)), "1 states from 0 to 0; 0 c but 'b' 0"},
		{loop(but(Words)), loop(but(Chars)), "1 states from 0 to 0"},
		{loop(Edge{Kind: Nest}), loop(but(Chars)), "1 states from 0 to 0"},
		{loop(one(a), but(Chars, a)), loop(but(Chars, b), but(Chars)), "1 states from 0 to 0; 0 'a' 0; 0 c but 'ab' 0; 0 c but 'a' 0"},
		{Automaton{States: 2, Final: []int{1}, Edges: []Edge{{To: 1, Kind: Chars}}}, Automaton{States: 2, Final: []int{0}, Edges: []Edge{{To: 1, Kind: Chars}}}, "1 states from 0 to"},
		// the pair behind the brackets is found ahead of that in them: 0 is (0,0), 1 (3,0), 2 (1,0), 3 (2,0)
		{Automaton{States: 4, Final: []int{2, 3}, Edges: []Edge{{To: 3, Kind: Nest, Inner: 1}, {From: 1, To: 2, Kind: One, Symbol: a}}}, Any(),
			"4 states from 0 to 1 3; 0 (2) 1; 2 'a' 3"},
		// brackets without a common value are found, too, and so the pair (1,0) is ahead of (4,0)
		{Automaton{States: 5, Final: []int{1, 4}, Edges: []Edge{{To: 1, Kind: Nest, Inner: 2}, {From: 2, To: 3, Kind: Words}, {To: 4, Kind: Chars}, {From: 4, To: 1, Kind: Chars}}}, Any(),
			"3 states from 0 to 1 2; 0 c 2; 2 c 1"},
	} {
		c := must(t, "Both")(Both(x.a, x.b))
		if c.text() != x.want {
			t.Errorf("Both of %s and %s = %s, want %s", x.a.text(), x.b.text(), c.text(), x.want)
		}
	}
}

func TestNot(t *testing.T) {
	for _, c := range []struct {
		name string
		a    Automaton
		want string
	}{
		{"Any", Any(), "1 states from 0 to"},
		// the sets: nothing, which is all that there is
		{"none", Automaton{States: 1}, "2 states from 1 to 0 1; 0 c 0; 0 w 0; 0 n 0; 0 (0) 0; 1 c 0; 1 w 0; 1 n 0; 1 (0) 0"},
		// the sets: 0 the final state, 1 none
		{"the empty value", Automaton{States: 1, Final: []int{0}},
			"3 states from 2 to 0; 1 c 0; 1 w 0; 1 n 0; 1 (0) 0; 1 c 1; 1 w 1; 1 n 1; 1 (0) 1; 1 (1) 1; 1 (1) 0; 2 c 0; 2 w 0; 2 n 0; 2 (0) 0; 2 c 1; 2 w 1; 2 n 1; 2 (0) 1; 2 (1) 1; 2 (1) 0"},
		// the sets: 0 the state 1, 1 the state 0, 2 none
		{"A", Automaton{States: 2, Final: []int{1}, Edges: []Edge{{To: 1, Kind: One, Symbol: word("A")}}},
			"4 states from 3 to 0 3; 1 A 0; 2 c 0; 2 w but A 0; 2 n 0; 2 (0) 0; " +
				"2 A 1; 2 c 1; 2 w but A 1; 2 n 1; 2 (0) 1; 2 (1) 1; 2 (1) 0; " +
				"2 A 2; 2 c 2; 2 w but A 2; 2 n 2; 2 (0) 2; 2 (1) 2; 2 (2) 2; 2 (2) 0; 2 (2) 1; " +
				"3 c 0; 3 w but A 0; 3 n 0; 3 (0) 0; 3 A 1; 3 c 1; 3 w but A 1; 3 n 1; 3 (0) 1; 3 (1) 1; 3 (1) 0; " +
				"3 A 2; 3 c 2; 3 w but A 2; 3 n 2; 3 (0) 2; 3 (1) 2; 3 (2) 2; 3 (2) 0; 3 (2) 1"},
		// the sets: 0 the state 0, 1 none
		{"chars and brackets", Automaton{States: 1, Final: []int{0}, Edges: []Edge{{Kind: Chars, Except: []api.Term{char("b")}}, {Kind: Nest}}},
			"3 states from 2 to 0; 1 'b' 0; 0 c but 'b' 0; 1 w 0; 1 n 0; 0 (0) 0; " +
				"1 'b' 1; 1 c but 'b' 1; 1 w 1; 1 n 1; 1 (0) 1; 1 (1) 1; 1 (1) 0; " +
				"2 'b' 0; 2 w 0; 2 n 0; 2 'b' 1; 2 c but 'b' 1; 2 w 1; 2 n 1; 2 (0) 1; 2 (1) 1; 2 (1) 0"},
	} {
		a := must(t, "Not of "+c.name)(Not(c.a))
		if a.text() != c.want {
			t.Errorf("Not of %s = %s, want %s", c.name, a.text(), c.want)
		}
	}
}

func TestLeast(t *testing.T) {
	edge := func(from, to, kind int, except ...string) Edge {
		x := Edge{From: from, To: to, Kind: kind}
		for _, s := range except {
			x.Except = append(x.Except, api.Term{Kind: x.symbols(), Text: s})
		}
		return x
	}
	one := func(from, to int, x api.Term) Edge { return Edge{From: from, To: to, Kind: One, Symbol: x} }
	nest := func(from, inner, to int) Edge { return Edge{From: from, To: to, Kind: Nest, Inner: inner} }
	letters := strings.Split("abcdefghijklmnopqrstuvwxyz", "")
	var bytes, words []string
	for i := range 256 {
		bytes = append(bytes, string([]byte{byte(i)}))
	}
	for _, a := range letters {
		words = append(words, "a"+a)
	}
	slices.Sort(words)
	for _, c := range []struct {
		edges []Edge
		want  string
	}{
		{nil, "none"},
		{[]Edge{edge(0, 1, Chars)}, "'a'"},
		{[]Edge{edge(0, 1, Words)}, "a"},
		{[]Edge{edge(0, 1, Numbers)}, "0"},
		{[]Edge{nest(0, 1, 1)}, "()"},
		{[]Edge{nest(0, 0, 1)}, "none"},
		{[]Edge{nest(0, 1, 1), edge(0, 1, Numbers), edge(0, 1, Words)}, "a"},
		{[]Edge{edge(0, 1, Words), edge(0, 1, Chars), edge(0, 1, Numbers)}, "'a'"},
		{[]Edge{edge(0, 1, Chars, "a", "b", "d")}, "'c'"},
		{[]Edge{edge(0, 1, Chars, letters...)}, `'\x00'`},
		{[]Edge{edge(0, 1, Chars, slices.Concat(bytes[:70], letters)...)}, "'F'"},
		{[]Edge{edge(0, 1, Words, letters[:25]...)}, "z"},
		{[]Edge{edge(0, 1, Words, slices.Sorted(slices.Values(letters))...)}, "aa"},
		{[]Edge{edge(0, 1, Words, sorted(letters, words[:25])...)}, "az"},
		{[]Edge{edge(0, 1, Words, sorted(letters, words)...)}, "ba"},
		{[]Edge{edge(0, 1, Words, sorted(letters, words, []string{"ba", "bb"})...)}, "bc"},
		{[]Edge{edge(0, 1, Numbers, "0", "1", "10", "2", "3", "4", "5", "6", "7", "8", "9")}, "11"},
		{[]Edge{edge(0, 1, Numbers, "-1", "0", "2")}, "1"},
		{[]Edge{one(0, 1, word("B")), one(0, 1, word("A")), one(0, 1, word("C"))}, "A"},
		// an edge for a kind reads its first symbol alone, also where another one would be less
		{[]Edge{edge(0, 1, Chars)}, "'a'"},
		{[]Edge{edge(0, 1, Chars), one(0, 1, char("A"))}, "'A'"},
		// fewer terms, at all depths
		{[]Edge{one(0, 2, word("A")), one(2, 1, word("A")), nest(0, 1, 1)}, "()"},
		{[]Edge{one(0, 2, word("A")), one(2, 1, word("A")), nest(0, 2, 1)}, "A A"},
		{[]Edge{one(0, 2, word("B")), one(2, 1, word("A")), nest(0, 2, 1)}, "B A"},
		{[]Edge{one(0, 2, word("B")), one(2, 3, word("A")), one(3, 1, word("A")), nest(0, 3, 1)}, "(A)"},
		// equal sizes: the first terms decide, and then the others
		{[]Edge{one(0, 2, word("B")), one(0, 3, word("A")), one(2, 1, word("A")), one(3, 1, word("Z"))}, "A Z"},
		{[]Edge{one(0, 2, word("A")), one(0, 3, word("A")), one(2, 1, word("Z")), one(3, 1, word("Y"))}, "A Y"},
		{[]Edge{nest(0, 2, 1), one(2, 1, word("B")), one(2, 1, word("A"))}, "(A)"},
		{[]Edge{nest(0, 2, 4), one(2, 1, word("B")), one(4, 1, word("C")), nest(0, 3, 1), one(3, 2, word("A"))}, "(A B)"},
		{[]Edge{nest(0, 1, 4), one(4, 2, word("C")), one(2, 1, word("A")), nest(0, 3, 1), one(3, 2, word("A"))}, "() C A"},
	} {
		a := Automaton{States: 5, Final: []int{1}, Edges: c.edges}
		if e := Check(a); e != api.OK {
			t.Fatalf("Check of %s = %v", a.text(), e)
		}
		v, ok, e := Least(a)
		got := text(v)
		if !ok {
			got += "none"
		}
		if got != c.want || e != api.OK {
			t.Errorf("Least of %s = %s, %v, want %s", a.text(), got, e, c.want)
		}
	}
	if v, ok, e := Least(Any()); len(v) > 0 || !ok || e != api.OK {
		t.Errorf("Least of Any = %v, %v, %v", v, ok, e)
	}
}

func sorted(lists ...[]string) []string {
	l := slices.Concat(lists...)
	slices.Sort(l)
	return l
}

// doubled returns an automaton that accepts brackets around two values of the same with one level less.
func doubled(levels, top int) Automaton {
	a := Automaton{States: 3*levels + 1 + top, Final: []int{3 * levels}}
	for i := range levels {
		q := 3 * i
		a.Edges = append(a.Edges, Edge{From: q, To: q + 1, Kind: Nest, Inner: q + 3}, Edge{From: q + 1, To: 3 * levels, Kind: Nest, Inner: q + 3})
	}
	for i := range top {
		a.Edges = append(a.Edges, Edge{From: 3*levels + 1 + i, To: 3*levels + 2 + i, Kind: Chars})
	}
	if top > 0 {
		a.Start = 3*levels + 1
		a.Edges[len(a.Edges)-1].To = 0
	}
	return a
}

func TestLeastLimits(t *testing.T) {
	nested := Automaton{States: 200, Final: []int{199}}
	for q := range 199 {
		nested.Edges = append(nested.Edges, Edge{From: q, To: 199, Kind: Nest, Inner: q + 1})
	}
	for _, c := range []struct {
		name  string
		a     Automaton
		start int
		nodes int // 0: api.ErrLarge
	}{
		{"2 terms", doubled(1, 0), 0, 2},
		{"4094 terms", doubled(11, 0), 0, 0},
		{"2046 terms", doubled(10, 0), 0, 2046},
		{"2^133 terms", doubled(133, 0), 0, 0},
		{"3998 terms", doubled(10, 0), 3, 1022},
		{"100 levels", nested, 99, 100},
		{"101 levels", nested, 98, 0},
		{"199 levels", nested, 0, 0},
	} {
		c.a.Start = c.start
		v, ok, e := Least(c.a)
		nodes, _ := term.Size(v)
		if want := c.nodes > 0; ok != want || nodes != c.nodes || want != (e == api.OK) || !want && e != api.ErrLarge {
			t.Errorf("Least of one with %s has %d terms, %v, %v", c.name, nodes, ok, e)
		}
	}
}

// boxes returns an automaton that accepts 40 brackets, each around 99 characters, and so many characters behind.
func boxes(behind int) Automaton {
	a := Automaton{States: 141 + behind, Final: []int{40 + behind, 140 + behind}}
	for q := range 40 {
		a.Edges = append(a.Edges, Edge{From: q, To: q + 1, Kind: Nest, Inner: 41 + behind})
	}
	for q := 40; q < 140+behind; q++ {
		if q != 40+behind {
			a.Edges = append(a.Edges, Edge{From: q, To: q + 1, Kind: Chars})
		}
	}
	return a
}

func TestLeastNodes(t *testing.T) {
	for behind, want := range []api.Errno{api.OK, api.ErrLarge} {
		v, ok, e := Least(boxes(behind))
		if nodes, _ := term.Size(v); e != want || ok != (want == api.OK) || ok && nodes != 4000 {
			t.Errorf("Least has %d terms, %v, %v, want %v", nodes, ok, e, want)
		}
	}
}
