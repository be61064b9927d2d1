package decide

import (
	"slices"
	"strconv"
	"strings"
	"testing"

	"chiasmus/api"
	"chiasmus/term"
)

func parsed(t *testing.T, s string) []api.Term {
	t.Helper()
	l, at, e := term.Parse(s)
	if e != api.OK {
		t.Fatalf("Parse(%q) = %d, %v", s, at, e)
	}
	return l
}

// sentences returns sentences whose patterns have some texts.
func sentences(t *testing.T, lefts ...string) []api.Sentence {
	t.Helper()
	l := make([]api.Sentence, len(lefts))
	for i, s := range lefts {
		l[i].Left = parsed(t, s)
	}
	return l
}

// built returns the graph of the sentences whose patterns have some texts.
func built(t *testing.T, lefts ...string) Graph {
	t.Helper()
	g, e := Build(sentences(t, lefts...))
	if e != api.OK {
		t.Fatalf("Build(%q) = %v", lefts, e)
	}
	return g
}

func (p Place) text() string {
	if p.Right {
		return strconv.Itoa(p.Index) + "r"
	}
	return strconv.Itoa(p.Index) + "l"
}

// outcomeText returns the outcome of an edge, or its symbol.
func (e Edge) outcomeText() string {
	if e.Outcome == Symbolic {
		s, _ := term.Text([]api.Term{e.Symbol})
		return s
	}
	return []string{"?", "absent", "bracket", "?", "other"}[e.Outcome]
}

// text returns a text of a graph: of each node the tries, or the place, and the edges.
func (g Graph) text() string {
	var l []string
	for _, n := range g.Nodes {
		if len(n.Edges) == 0 {
			var tries []string
			for _, i := range n.Tries {
				tries = append(tries, strconv.Itoa(i))
			}
			l = append(l, "["+strings.Join(tries, " ")+"]")
			continue
		}
		s := n.Place.text()
		for _, e := range n.Edges {
			s += " " + e.outcomeText() + ":" + strconv.Itoa(e.To)
		}
		l = append(l, s)
	}
	return strings.Join(l, "; ")
}

// symbol returns the edge for a Char.
func symbol(s string, to int) Edge {
	return Edge{Outcome: Symbolic, Symbol: api.Term{Kind: api.Char, Text: s}, To: to}
}

// ask returns a node with the first place; its last three edges lead to some nodes, and others come ahead.
func ask(bracket, other, absent int, ahead ...Edge) Node {
	last := []Edge{{Outcome: Bracket, To: bracket}, {Outcome: Other, To: other}, {Outcome: Absent, To: absent}}
	return Node{Edges: slices.Concat(ahead, last)}
}

// at returns a node with another place.
func (n Node) at(index int, right bool) Node {
	n.Place = Place{index, right}
	return n
}

func end(tries ...int) Node { return Node{Tries: tries} }

func graph(l ...Node) Graph { return Graph{l} }

func TestBuild(t *testing.T) {
	for _, c := range []struct {
		lefts []string
		want  string
	}{
		{nil, "[]"},
		{[]string{"'a' e.1", "'b' e.1", "e.1"}, "0l 'a':1 'b':2 bracket:3 other:3 absent:3; [0 2]; [1 2]; [2]"},
		{[]string{"e.1"}, "[0]"},
		{[]string{"e.1", "'a'"}, "[0 1]"},
		{[]string{"e.1 'a' e.2"}, "[0]"},
		{[]string{""}, "[0]"},
		{[]string{"", "'a' e.1"}, "[0 1]"},
		{[]string{"'a' e.1", ""}, "0l 'a':1 bracket:2 other:2 absent:3; [0]; []; [1]"},
		{[]string{"'b' e.1", "'a' e.1", "'b'"}, "0l 'a':1 'b':2 bracket:3 other:3 absent:3; [1]; [0 2]; []"},
		{[]string{"1 e.1", "A e.1", "'a' e.1"}, "0l 'a':1 A:2 1:3 bracket:4 other:4 absent:4; [2]; [1]; [0]; []"},
		{[]string{"e.1 'a'"}, "0r 'a':1 bracket:2 other:2 absent:2; [0]; []"},
		{[]string{"e.1 'ab'"}, "0r 'b':1 bracket:3 other:3 absent:3; 1r 'a':2 bracket:3 other:3 absent:3; [0]; []"},
		{[]string{"'a' e.1 'b'"}, "0l 'a':1 bracket:3 other:3 absent:3; 0r 'b':2 bracket:3 other:3 absent:3; [0]; []"},
		{[]string{"'ab' e.1", "'a' e.1"}, "0l 'a':1 bracket:4 other:4 absent:4; 1l 'b':2 bracket:3 other:3 absent:3; [0 1]; [1]; []"},
		{[]string{"s.1 e.2"}, "0l bracket:1 other:2 absent:1; []; [0]"},
		{[]string{"t.1 e.2"}, "0l bracket:1 other:1 absent:2; [0]; []"},
		{[]string{"s.1 e.2", "'a' e.1"}, "0l 'a':1 bracket:2 other:3 absent:2; [0 1]; []; [0]"},
		{[]string{"(e.1) e.2", "s.1 e.2", "e.1"}, "0l bracket:1 other:2 absent:3; [0 2]; [1 2]; [2]"},
		{[]string{"('a') e.1", "('b') e.1"}, "0l bracket:1 other:2 absent:2; [0 1]; []"}, // only the top level counts
		{[]string{"'a'"}, "0l 'a':1 bracket:3 other:3 absent:3; 0r 'a':2 bracket:3 other:3 absent:3; [0]; []"},
		{[]string{"e.2 s.1 t.1 'a' e.1"}, "[0]"},
		{[]string{"s.1 t.1 s.2 s.3 e.1"}, "0l bracket:1 other:2 absent:1; []; 1l bracket:3 other:3 absent:1; 2l bracket:1 other:4 absent:1; [0]"},
		{[]string{"e.1 s.3 s.2 t.1 s.1"}, "0r bracket:1 other:2 absent:1; []; 1r bracket:3 other:3 absent:1; 2r bracket:1 other:4 absent:1; [0]"},
	} {
		if s := built(t, c.lefts...).text(); s != c.want {
			t.Errorf("Build(%q) = %s, want %s", c.lefts, s, c.want)
		}
	}
}

func TestSentencesErrors(t *testing.T) {
	wrong := api.Sentence{Left: parsed(t, "<F>")}
	large := api.Sentence{Left: make([]api.Term, 4001)}
	deep := api.Sentence{Left: []api.Term{{Kind: api.Group, Kids: parsed(t, strings.Repeat("(", 100)+strings.Repeat(")", 100))}}}
	for _, c := range []struct {
		l    []api.Sentence
		want api.Errno
	}{
		{slices.Repeat([]api.Sentence{wrong}, 41), api.ErrCount},
		{[]api.Sentence{{}, wrong, large}, api.ErrForm},
		{[]api.Sentence{{}, large, wrong}, api.ErrCount},
		{[]api.Sentence{deep, wrong}, api.ErrDepth},
	} {
		if g, e := Build(c.l); len(g.Nodes) != 0 || e != c.want {
			t.Errorf("Build = %v, %v, want %v", g, e, c.want)
		}
		if e := Check(c.l, Graph{}); e != c.want {
			t.Errorf("Check = %v, want %v", e, c.want)
		}
		if i, l, e := Run(c.l, Graph{}, make([]api.Term, 4001)); i != 0 || len(l) != 0 || e != c.want {
			t.Errorf("Run = %d, %v, %v, want %v", i, l, e, c.want)
		}
	}
	odd := api.Sentence{Left: parsed(t, "e.1"), Tests: make([]api.Test, 99), Right: make([]api.Term, 9999), Block: []api.Sentence{wrong}}
	if g, e := Build(slices.Repeat([]api.Sentence{odd}, 40)); len(g.Nodes) != 1 || len(g.Nodes[0].Tries) != 40 || e != api.OK {
		t.Errorf("Build of sentences whose other parts are wrong = %v, %v", g, e)
	}
}

// The arguments are left as they are, and a graph keeps nothing of them.
func TestBuildMemory(t *testing.T) {
	l := sentences(t, "'a' e.1", "('b') e.1")
	g, _ := Build(l)
	s := g.text()
	l[0].Left[0].Text = "x"
	if g.text() != s {
		t.Errorf("the graph became %s", g.text())
	}
	tries, _, _ := Tries(g, parsed(t, "()"))
	tries[0] = 7
	if g.text() != s {
		t.Errorf("the graph became %s", g.text())
	}
}

// chain returns a graph of so many nodes with questions, each of which leads to the next one by one edge or by all three.
func chain(questions int, wide bool) Graph {
	var g Graph
	for i := range questions {
		n := ask(i+1, questions, questions)
		if wide {
			n = ask(i+1, i+1, i+1)
		}
		g.Nodes = append(g.Nodes, n)
	}
	g.Nodes = append(g.Nodes, end())
	return g
}

func TestGraphErrors(t *testing.T) {
	number := func(kind int, s string) Edge {
		return Edge{Outcome: Symbolic, Symbol: api.Term{Kind: kind, Text: s}, To: 1}
	}
	var symbols []Edge
	for i := range 58 {
		symbols = append(symbols, symbol(string(rune('A'+i)), 1))
	}
	without := func(i int) Node {
		n := ask(1, 1, 1)
		n.Edges = slices.Delete(n.Edges, i, i+1)
		return n
	}
	changed := func(i int, change func(e *Edge)) Node {
		n := ask(1, 1, 1)
		change(&n.Edges[i])
		return n
	}
	tried := ask(1, 1, 1)
	tried.Tries = []int{0}
	for name, c := range map[string]struct {
		g    Graph
		want api.Errno
	}{
		"an end":                   {graph(end()), api.OK},
		"an end with tries":        {graph(end(0, 3, 39)), api.OK},
		"a question":               {graph(ask(1, 1, 1), end()), api.OK},
		"symbols of all kinds":     {graph(ask(1, 1, 1, number(api.Char, "b"), number(api.Word, "a"), number(api.Number, "0")), end()), api.OK},
		"57 symbols":               {graph(ask(1, 1, 1, symbols[:57]...), end()), api.OK},
		"a node that is not met":   {graph(end(), ask(0, 0, 0)), api.OK},
		"all places":               {graph(ask(1, 1, 1).at(2, true), ask(2, 2, 2).at(0, true), end()), api.OK},
		"a place twice":            {graph(ask(1, 1, 1), ask(2, 2, 2), end()), api.OK},
		"equal nodes":              {graph(ask(1, 2, 3), end(1), end(1), end(2)), api.OK},
		"6000 nodes":               {chain(5999, false), api.OK},
		"no node":                  {graph(), ErrGraph},
		"6001 nodes":               {Graph{make([]Node, 6001)}, api.ErrCount},
		"58 symbols":               {graph(Node{Place: Place{Index: 9}}, ask(1, 1, 1, symbols...)), api.ErrCount},
		"40 tries":                 {graph(end(all(make([]api.Sentence, 40))...)), api.OK},
		"41 tries":                 {graph(Node{Place: Place{Index: 9}}, Node{Tries: make([]int, 41)}), api.ErrCount},
		"the place 3":              {graph(ask(1, 1, 1).at(3, false), end()), ErrGraph},
		"the place -1":             {graph(ask(1, 1, 1).at(-1, true), end()), ErrGraph},
		"an end with a place":      {graph(end(1).at(1, false)), ErrGraph},
		"an end on the right":      {graph(end(1).at(0, true)), ErrGraph},
		"a question with tries":    {graph(tried, end()), ErrGraph},
		"a try -1":                 {graph(end(-1)), ErrGraph},
		"tries that descend":       {graph(end(1, 0)), ErrGraph},
		"a try twice":              {graph(end(1, 1)), ErrGraph},
		"an edge to -1":            {graph(ask(1, -1, 1), end()), ErrGraph},
		"an edge to 2":             {graph(ask(1, 1, 2), end()), ErrGraph},
		"a symbol's edge to 2":     {graph(ask(1, 1, 1, symbol("a", 2)), end()), ErrGraph},
		"no bracket":               {graph(without(0), end()), ErrGraph},
		"no other":                 {graph(without(1), end()), ErrGraph},
		"no absent":                {graph(without(2), end()), ErrGraph},
		"an outcome twice":         {graph(changed(2, func(e *Edge) { e.Outcome = Other }), end()), ErrGraph},
		"the outcome 5":            {graph(changed(0, func(e *Edge) { e.Outcome = 5 }), end()), ErrGraph},
		"a bracket with a symbol":  {graph(changed(0, func(e *Edge) { e.Symbol = symbols[0].Symbol }), end()), ErrGraph},
		"other with a text":        {graph(changed(1, func(e *Edge) { e.Symbol.Text = "a" }), end()), ErrGraph},
		"absent with kids":         {graph(changed(2, func(e *Edge) { e.Symbol.Kids = make([]api.Term, 1) }), end()), ErrGraph},
		"absent with no kids":      {graph(changed(2, func(e *Edge) { e.Symbol.Kids = []api.Term{} }), end()), api.OK},
		"other outcomes ahead":     {graph(ask(1, 1, 1, Edge{Outcome: Bracket, To: 1}), end()), ErrGraph},
		"symbols that descend":     {graph(ask(1, 1, 1, symbols[1], symbols[0]), end()), ErrGraph},
		"a symbol twice":           {graph(ask(1, 1, 1, symbols[1], symbols[1]), end()), ErrGraph},
		"kinds that descend":       {graph(ask(1, 1, 1, number(api.Word, "a"), number(api.Char, "b")), end()), ErrGraph},
		"a symbol of no bytes":     {graph(ask(1, 1, 1, number(api.Char, "")), end()), ErrGraph},
		"a number with a zero":     {graph(ask(1, 1, 1, number(api.Number, "01")), end()), ErrGraph},
		"a group as a symbol":      {graph(ask(1, 1, 1, number(api.Group, "")), end()), ErrGraph},
		"a variable as a symbol":   {graph(ask(1, 1, 1, number(api.SVar, "1")), end()), ErrGraph},
		"a way to itself":          {graph(ask(1, 0, 1), end()), ErrGraph},
		"a long way to itself":     {graph(ask(1, 1, 1), ask(3, 2, 3), ask(3, 3, 0), end()), ErrGraph},
		"a circle that is not met": {graph(end(), ask(0, 2, 0), ask(0, 0, 1)), ErrGraph},
	} {
		arg := make([]api.Term, 4001)
		wrong := c.want
		if c.want == api.OK {
			wrong = api.ErrCount // that of the argument
		}
		if l, n, e := Tries(c.g, arg); len(l) != 0 || n != 0 || e != wrong {
			t.Errorf("Tries of a graph with %s = %v, %d, %v, want %v", name, l, n, e, wrong)
		}
		nodes, questions, e := Size(c.g)
		if e != c.want || e != api.OK && (nodes != 0 || questions != 0) {
			t.Errorf("Size of a graph with %s = %d, %d, %v, want %v", name, nodes, questions, e, c.want)
		}
		if c.want == api.OK {
			continue
		}
		if e := Check(nil, c.g); e != c.want {
			t.Errorf("Check of a graph with %s = %v, want %v", name, e, c.want)
		}
		if i, l, e := Run(nil, c.g, arg); i != 0 || len(l) != 0 || e != c.want {
			t.Errorf("Run of a graph with %s = %d, %v, %v, want %v", name, i, l, e, c.want)
		}
	}
}

func TestCheck(t *testing.T) {
	lefts := func(l ...string) []api.Sentence { return sentences(t, l...) }
	for name, c := range map[string]struct {
		l    []api.Sentence
		g    Graph
		want api.Errno
	}{
		"no sentences":                      {nil, graph(end()), api.OK},
		"all":                               {lefts("'a'", "e.1"), graph(end(0, 1)), api.OK},
		"all at each end":                   {lefts("'a'", "e.1"), graph(ask(1, 1, 2), end(0, 1), end(0, 1)), api.OK},
		"one is left out":                   {lefts("'a'", "e.1"), graph(end(1)), ErrGraph},
		"the last one is left out":          {lefts("e.1", "e.1", "e.1"), graph(end(0, 1)), ErrGraph},
		"another one in its place":          {lefts("e.1", "e.1", "'a'"), graph(ask(1, 2, 2), end(1, 2), end(0, 1, 2)), ErrGraph},
		"a middle one is left out":          {lefts("e.1", "e.1", "e.1", "e.1"), graph(end(0, 2, 3)), ErrGraph},
		"no sentence's number":              {lefts("'a'", "e.1"), graph(end(0, 1, 2)), ErrGraph},
		"no sentence's number, not met":     {lefts("'a'", "e.1"), graph(end(0, 1), end(2)), ErrGraph},
		"no sentence's number of none":      {nil, graph(end(0)), ErrGraph},
		"a symbol is told":                  {lefts("'a' e.1", "'b' e.1"), graph(ask(3, 3, 3, symbol("a", 1), symbol("b", 2)), end(0), end(1), end()), api.OK},
		"a symbol for another one":          {lefts("'a' e.1", "'b' e.1"), graph(ask(3, 3, 3, symbol("a", 2), symbol("b", 2)), end(0), end(1), end()), ErrGraph},
		"a symbol that is not named":        {lefts("'a' e.1", "'b' e.1"), graph(ask(2, 1, 2, symbol("a", 3)), end(1), end(), end(0)), api.OK},
		"a symbol that is not named, out":   {lefts("'a' e.1", "'b' e.1"), graph(ask(2, 2, 2, symbol("a", 1)), end(0), end()), ErrGraph},
		"a word is no char":                 {lefts("a e.1"), graph(ask(1, 2, 1, symbol("a", 1)), end(), end(0)), api.OK},
		"a char is no word":                 {lefts("a e.1"), graph(ask(1, 1, 1, symbol("a", 2)), end(), end(0)), ErrGraph},
		"s for a bracket":                   {lefts("s.1 e.2"), graph(ask(2, 1, 2, symbol("a", 1)), end(0), end()), api.OK},
		"s for a symbol, out":               {lefts("s.1 e.2"), graph(ask(2, 1, 2, symbol("a", 2)), end(0), end()), ErrGraph},
		"s for other, out":                  {lefts("s.1 e.2"), graph(ask(2, 2, 2, symbol("a", 1)), end(0), end()), ErrGraph},
		"t is no absent":                    {lefts("t.1 e.2"), graph(ask(1, 1, 2, symbol("a", 1)), end(0), end()), api.OK},
		"t for a bracket, out":              {lefts("t.1 e.2"), graph(ask(2, 1, 2), end(0), end()), ErrGraph},
		"t for other, out":                  {lefts("t.1 e.2"), graph(ask(1, 2, 2), end(0), end()), ErrGraph},
		"a group is a bracket":              {lefts("('a') e.2"), graph(ask(1, 2, 2, symbol("a", 2)), end(0), end()), api.OK},
		"a group, out":                      {lefts("('a') e.2"), graph(ask(2, 1, 1, symbol("a", 1)), end(0), end()), ErrGraph},
		"nothing is absent":                 {lefts(""), graph(ask(1, 1, 2, symbol("a", 1)), end(), end(0)), api.OK},
		"nothing, out":                      {lefts(""), graph(ask(1, 1, 2, symbol("a", 1)), end(0), end()), ErrGraph},
		"two terms have no third one":       {lefts("'ab'"), graph(ask(2, 2, 1).at(2, true), end(0), end()), api.OK},
		"two terms have a second one":       {lefts("'ab'"), graph(ask(2, 2, 2, symbol("a", 1)).at(1, true), end(0), end()), api.OK},
		"two terms and more may have":       {lefts("'a' e.1 'b'"), graph(ask(2, 2, 1).at(2, true), end(0), end()), ErrGraph},
		"behind an e-variable":              {lefts("e.1 'a' e.2"), graph(ask(1, 1, 2, symbol("b", 1)), end(0), end()), api.OK},
		"behind an e-variable, out":         {lefts("e.1 'a' e.2"), graph(ask(2, 1, 1, symbol("b", 1)), end(0), end()), ErrGraph},
		"e-variables may have nothing":      {lefts("e.1 e.2"), graph(ask(1, 1, 2), end(0), end()), ErrGraph},
		"behind an e-variable, one at most": {lefts("e.1 'a' e.2"), graph(ask(1, 1, 1, symbol("b", 1)).at(1, false), end(0)), api.OK},
		"all answers of a way count":        {lefts("'a' e.1 'b'", "e.1"), graph(ask(3, 3, 3, symbol("a", 1)), ask(3, 3, 3, symbol("b", 2)).at(0, true), end(0, 1), end(1)), api.OK},
		"answers that cannot be together":   {lefts("e.1"), graph(ask(1, 3, 3), ask(3, 2, 3), end(), end(0)), ErrGraph},
		"19683 ways":                        {nil, chain(9, true), api.OK},
		"59049 ways":                        {nil, chain(10, true), api.ErrCount},
		"many ways, and a wrong number":     {nil, graph(append(chain(10, true).Nodes, end(0))...), api.ErrCount},
		"a long way":                        {lefts("e.1"), chain(5999, false), ErrGraph},
		"endless ways":                      {nil, chain(5999, true), api.ErrCount},
	} {
		if e := Check(c.l, c.g); e != c.want {
			t.Errorf("Check with %s = %v, want %v", name, e, c.want)
		}
		if _, _, e := Run(c.l, c.g, make([]api.Term, 4001)); c.want != api.OK && e != c.want {
			t.Errorf("Run with %s = %v, want %v", name, e, c.want)
		}
	}
}

// The greatest number of ways that may be.
func TestWays(t *testing.T) {
	const last = 5001
	g := graph(Node{})
	for i := 1; i < last; i++ {
		g.Nodes = append(g.Nodes, ask(i+1, last, last)) // from here 2 (last - i) + 1 ways go on
	}
	g.Nodes = append(g.Nodes, end())
	g.Nodes[0] = ask(3, last, last, symbol("a", 1))
	if e := Check(nil, g); e != api.OK {
		t.Errorf("Check of 20000 ways = %v", e)
	}
	g.Nodes[0] = ask(2, 1, last)
	if e := Check(nil, g); e != api.ErrCount {
		t.Errorf("Check of 20001 ways = %v", e)
	}
}

func TestTries(t *testing.T) {
	g := built(t, "'a' e.1", "'b' e.1", "e.1")
	for _, c := range []struct {
		g         Graph
		arg       string
		want      []int
		questions int
	}{
		{g, "'bx'", []int{1, 2}, 1},
		{g, "'a'", []int{0, 2}, 1},
		{g, "'c'", []int{2}, 1},
		{g, "a", []int{2}, 1},
		{g, "('a')", []int{2}, 1},
		{g, "", []int{2}, 1},
		{graph(end(3, 5)), "'a'", []int{3, 5}, 0},
		{graph(end()), "", nil, 0},
		{built(t, "s.1 t.1 s.2 s.3 e.1"), "a (b) c", []int{0}, 3},
		{built(t, "s.1 t.1 s.2 s.3 e.1"), "a b (c)", nil, 3},
		{built(t, "s.1 t.1 s.2 s.3 e.1"), "a", nil, 2},
		{built(t, "e.1 s.3 s.2 t.1 s.1"), "x c (b) a", []int{0}, 3},
		{built(t, "e.1 s.3 s.2 t.1 s.1"), "x (c) b a", nil, 3},
		{built(t, "e.1 s.3 s.2 t.1 s.1"), "(a)", nil, 1},
		{built(t, "e.1 s.3 s.2 t.1 s.1"), "(x) c b (a) a", []int{0}, 3},
		{built(t, "'abc' e.1 'def'"), "'abcdef'", []int{0}, 6},
		{built(t, "'abc' e.1 'def'"), "'abcddf'", nil, 4},
	} {
		if l, n, e := Tries(c.g, parsed(t, c.arg)); !slices.Equal(l, c.want) || n != c.questions || e != api.OK {
			t.Errorf("Tries of %s for %s = %v, %d, %v, want %v, %d", c.g.text(), c.arg, l, n, e, c.want, c.questions)
		}
	}
	if l, n, e := Tries(g, parsed(t, "e.1")); len(l) != 0 || n != 0 || e != api.ErrForm {
		t.Errorf("Tries for a variable = %v, %d, %v", l, n, e)
	}
}

func TestRun(t *testing.T) {
	lefts := []string{"'a' e.1", "'b' e.1 s.2", "s.1 s.1", "e.1 (e.2) e.3", "e.1 'x' e.2"}
	for _, c := range []struct {
		arg      string
		sentence int
		want     string
		e        api.Errno
	}{
		{"'ab'", 0, "e.1='b';", api.OK},
		{"'bab'", 1, "e.1='a';s.2='b';", api.OK},
		{"'cc'", 2, "s.1='c';", api.OK},
		{"'b' (1) (2)", 3, "e.1='b';e.2=1;e.3=(2);", api.OK},
		{"'b' x ('x') 1", 1, "e.1=x ('x');s.2=1;", api.OK},
		{"'cxx'", 4, "e.1='c';e.2='x';", api.OK},
		{"'cd'", 0, "", api.ErrRecognition},
		{"", 0, "", api.ErrRecognition},
		{"s.1", 0, "", api.ErrForm},
	} {
		l := sentences(t, lefts...)
		for _, g := range []Graph{built(t, lefts...), graph(end(0, 1, 2, 3, 4))} {
			i, found, e := Run(l, g, parsed(t, c.arg))
			if i != c.sentence || textOf(found) != c.want || e != c.e {
				t.Errorf("Run of %s for %s = %d, %s, %v, want %d, %s, %v", g.text(), c.arg, i, textOf(found), e, c.sentence, c.want, c.e)
			}
		}
	}
}

func textOf(l []api.Binding) string {
	var b strings.Builder
	for _, x := range l {
		s, _ := term.Text(x.Value)
		b.WriteString(x.Var + "=" + s + ";")
	}
	return b.String()
}

func TestAnswer(t *testing.T) {
	arg := parsed(t, "'a' (b) C 1")
	for _, c := range []struct {
		p    Place
		want string
	}{
		{Place{0, false}, "'a'"},
		{Place{1, false}, "bracket"},
		{Place{2, false}, "C"},
		{Place{0, true}, "1"},
		{Place{1, true}, "C"},
		{Place{2, true}, "bracket"},
	} {
		if a, e := Answer(arg, c.p); a.outcomeText() != c.want || a.To != 0 || e != api.OK || a.Outcome != Symbolic && a.Symbol.Kind != 0 {
			t.Errorf("Answer at %s = %v, %v, want %s", c.p.text(), a, e, c.want)
		}
	}
	for n := range 3 {
		for index := range 3 {
			for _, right := range []bool{false, true} {
				a, e := Answer(arg[:n], Place{index, right})
				if (a.Outcome == Absent) != (index >= n) || e != api.OK {
					t.Errorf("Answer of %d terms at %d = %v, %v", n, index, a, e)
				}
			}
		}
	}
	for _, p := range []Place{{-1, false}, {-1, true}, {3, false}, {3, true}, {1 << 62, false}} {
		if a, e := Answer(make([]api.Term, 4001), p); a.Outcome != 0 || a.Symbol.Kind != 0 || e != api.ErrRange {
			t.Errorf("Answer at %v = %v, %v", p, a, e)
		}
	}
	for _, l := range [][]api.Term{parsed(t, "a s.1"), {{Kind: api.Char}}} {
		if a, e := Answer(l, Place{}); a.Outcome != 0 || a.Symbol.Kind != 0 || e != api.ErrForm {
			t.Errorf("Answer of %v = %v, %v", l, a, e)
		}
	}
}

func TestSize(t *testing.T) {
	for _, c := range []struct {
		g                Graph
		nodes, questions int
	}{
		{graph(end()), 1, 0},
		{graph(end(), ask(0, 0, 0)), 1, 0},
		{graph(ask(1, 1, 1), end()), 2, 1},
		{graph(ask(1, 1, 1), end(), ask(1, 1, 1)), 2, 1},
		{graph(ask(1, 2, 3), ask(2, 2, 2), ask(3, 3, 3), end()), 4, 3},
		{graph(ask(3, 2, 1), ask(2, 2, 2), ask(3, 3, 3), end()), 4, 3},
		{graph(ask(2, 2, 2, symbol("a", 1)), ask(3, 3, 3), ask(4, 4, 4), end(1), end()), 5, 2},
		{chain(5999, true), 6000, 5999},
		{built(t, "'abc' e.1 'def'"), 8, 6},
	} {
		if nodes, questions, e := Size(c.g); nodes != c.nodes || questions != c.questions || e != api.OK {
			t.Errorf("Size of a graph with %d nodes = %d, %d, %v, want %d, %d", len(c.g.Nodes), nodes, questions, e, c.nodes, c.questions)
		}
	}
}
