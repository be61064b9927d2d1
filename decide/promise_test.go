package decide

import (
	"math/rand"
	"slices"
	"strconv"
	"strings"
	"testing"

	"chiasmus/api"
	"chiasmus/match"
	"chiasmus/term"
)

// generator makes sentences and arguments; its numbers are the same in each run.
type generator struct{ *rand.Rand }

func newGenerator(seed int64) generator { return generator{rand.New(rand.NewSource(seed))} }

// list returns a list of terms of some kinds.
func (g generator) list(most int, kinds ...int) []api.Term {
	var l []api.Term
	for range g.Intn(most + 1) {
		t := api.Term{Kind: kinds[g.Intn(len(kinds))]}
		switch t.Kind {
		case api.Char, api.Word:
			t.Text = "abc"[g.Intn(3):][:1]
		case api.Group:
			t.Kids = g.list(most/3, kinds...)
		default:
			t.Text = strconv.Itoa(g.Intn(3))
		}
		l = append(l, t)
	}
	return l
}

func (g generator) sentences(most int) []api.Sentence {
	l := make([]api.Sentence, g.Intn(most+1))
	for i := range l {
		l[i].Left = g.list(6, api.Char, api.Char, api.Char, api.Word, api.Group, api.SVar, api.TVar, api.EVar, api.EVar)
	}
	return l
}

func (g generator) argument() []api.Term {
	return g.list(7, api.Char, api.Char, api.Char, api.Word, api.Number, api.Group)
}

// itemAt returns the item of a pattern at a place; false, if there is none, or an e-variable is at it or ahead of it.
func itemAt(pattern []api.Term, p Place) (api.Term, bool) {
	l := slices.Clone(pattern)
	if p.Right {
		slices.Reverse(l)
	}
	for i, t := range l {
		if t.Kind == api.EVar {
			return api.Term{}, false
		}
		if i == p.Index {
			return t, true
		}
	}
	return api.Term{}, false
}

// may reports whether a pattern may give an answer at a place, where some symbols are told apart.
func may(pattern []api.Term, p Place, outcome int, symbol api.Term, named []api.Term) bool {
	fixed := 0
	for _, t := range pattern {
		if t.Kind != api.EVar {
			fixed++
		}
	}
	if outcome == Absent {
		return fixed <= p.Index
	}
	if fixed == len(pattern) && fixed <= p.Index {
		return false
	}
	item, ok := itemAt(pattern, p)
	if !ok {
		return true
	}
	some := item.Kind == api.SVar || item.Kind == api.TVar
	isNamed := slices.ContainsFunc(named, func(t api.Term) bool { return term.Equal([]api.Term{t}, []api.Term{item}) })
	switch outcome {
	case Bracket:
		return !term.IsSymbol(item) && item.Kind != api.SVar
	case Symbolic:
		return some || term.Equal([]api.Term{item}, []api.Term{symbol})
	}
	return some || term.IsSymbol(item) && !isNamed
}

// tree writes the tree of questions that Build makes, before equal nodes become one, in the plainest way.
type tree struct {
	strings.Builder
	sentences []api.Sentence
	questions int
}

func (x *tree) write(candidates []int, asked []Place) {
	p, ok := x.place(candidates, asked)
	if !ok || x.questions == 2000 {
		x.WriteString("[")
		for _, i := range candidates {
			x.WriteString(strconv.Itoa(i) + " ")
		}
		x.WriteString("]")
		return
	}
	x.questions++
	var named []api.Term
	for _, i := range candidates {
		if t, ok := itemAt(x.sentences[i].Left, p); ok && term.IsSymbol(t) {
			named = append(named, t)
		}
	}
	compare := func(a, b api.Term) int { return term.Compare([]api.Term{a}, []api.Term{b}) }
	slices.SortFunc(named, compare)
	named = slices.CompactFunc(named, func(a, b api.Term) bool { return compare(a, b) == 0 })
	x.WriteString("(" + p.text())
	for i := range len(named) + 3 {
		e := Edge{Outcome: Symbolic}
		if i < len(named) {
			e.Symbol = named[i]
		} else {
			e.Outcome = []int{Bracket, Other, Absent}[i-len(named)]
		}
		var left []int
		for _, k := range candidates {
			if may(x.sentences[k].Left, p, e.Outcome, e.Symbol, named) {
				left = append(left, k)
			}
		}
		x.WriteString(" " + e.outcomeText() + ":")
		x.write(left, append(slices.Clone(asked), p))
	}
	x.WriteString(")")
}

// place returns the place that is asked for; false, if there is none.
func (x *tree) place(candidates []int, asked []Place) (Place, bool) {
	for index := range 3 {
		for _, right := range []bool{false, true} {
			p := Place{index, right}
			if len(candidates) == 0 || slices.Contains(asked, p) {
				continue
			}
			if _, ok := itemAt(x.sentences[candidates[0]].Left, p); ok {
				return p, true
			}
		}
	}
	return Place{}, false
}

// unrolled writes the tree of all ways of a graph from a node on.
func (g Graph) unrolled(b *strings.Builder, i int) {
	n := g.Nodes[i]
	if len(n.Edges) == 0 {
		b.WriteString("[")
		for _, k := range n.Tries {
			b.WriteString(strconv.Itoa(k) + " ")
		}
		b.WriteString("]")
		return
	}
	b.WriteString("(" + n.Place.text())
	for _, e := range n.Edges {
		b.WriteString(" " + e.outcomeText() + ":")
		g.unrolled(b, e.To)
	}
	b.WriteString(")")
}

// inOrderOfWalk reports whether a walk meets the nodes of a graph in the order of their numbers, and meets all.
func (g Graph) inOrderOfWalk() bool {
	met := 0
	var walk func(i int) bool
	walk = func(i int) bool {
		if i < met {
			return true
		}
		if i > met {
			return false
		}
		met++
		for _, e := range g.Nodes[i].Edges {
			if !walk(e.To) {
				return false
			}
		}
		return true
	}
	return walk(0) && met == len(g.Nodes)
}

// compact reports whether no two nodes of a graph are equal.
func (g Graph) compact() bool {
	seen := map[string]bool{}
	for _, n := range g.Nodes {
		s := graph(n).text() + n.Place.text()
		if seen[s] {
			return false
		}
		seen[s] = true
	}
	return true
}

// sameTree compares a built graph with the tree of questions.
func sameTree(t *testing.T, l []api.Sentence, g Graph) (questions int) {
	t.Helper()
	x := tree{sentences: l}
	x.write(all(l), nil)
	var b strings.Builder
	g.unrolled(&b, 0)
	if b.String() != x.String() {
		t.Fatalf("Build = %s, want %s", b.String(), x.String())
	}
	if !g.inOrderOfWalk() {
		t.Fatalf("nodes are not numbered in the order of a walk: %s", g.text())
	}
	if !g.compact() {
		t.Fatalf("equal nodes: %s", g.text())
	}
	return x.questions
}

func TestAgainstTrees(t *testing.T) {
	g := newGenerator(1)
	large := 0
	for range 3000 {
		l := g.sentences(5)
		graph, e := Build(l)
		if e != api.OK {
			t.Fatalf("Build = %v", e)
		}
		if sameTree(t, l, graph) > 20 {
			large++
		}
		if e := Check(l, graph); e != api.OK {
			t.Fatalf("Check of %s = %v", graph.text(), e)
		}
		if nodes, questions, e := Size(graph); nodes != len(graph.Nodes) || questions > 6 || e != api.OK {
			t.Fatalf("Size of %s = %d, %d, %v", graph.text(), nodes, questions, e)
		}
	}
	if large < 200 {
		t.Errorf("only %d graphs were large", large)
	}
}

// Behind 2000 questions there are ends with all candidates.
func TestMostQuestions(t *testing.T) {
	g := newGenerator(2)
	most := 0
	for range 6 {
		l := make([]api.Sentence, 40)
		for i := range l {
			for range 6 {
				kind := []int{api.SVar, api.TVar, api.Char, api.Char, api.Char}[g.Intn(5)]
				l[i].Left = append(l[i].Left, api.Term{Kind: kind, Text: string(rune('a' + g.Intn(25)))})
			}
		}
		graph, e := Build(l)
		if e != api.OK {
			t.Fatalf("Build = %v", e)
		}
		most = max(most, sameTree(t, l, graph))
		if e := Check(l, graph); e != api.OK && e != api.ErrCount {
			t.Errorf("Check = %v", e)
		}
		for range 20 {
			arg := g.list(7, api.Char, api.Group)
			leftOut(t, l, graph, arg)
		}
	}
	if most != 2000 {
		t.Errorf("at most %d questions", most)
	}
}

// leftOut checks that no sentence matches that is not tried.
func leftOut(t *testing.T, l []api.Sentence, g Graph, arg []api.Term) {
	t.Helper()
	tries, n, e := Tries(g, arg)
	if e != api.OK && e != api.ErrCount || n > 6 {
		t.Fatalf("Tries = %d, %v", n, e)
	}
	for i, s := range l {
		if _, f := match.First(s.Left, arg, nil); f == api.OK && e == api.OK && !slices.Contains(tries, i) {
			t.Fatalf("the sentence %d of %s is not tried", i, g.text())
		}
	}
}

// first returns the first of all sentences that matches, and its match.
func first(l []api.Sentence, arg []api.Term) (int, []api.Binding, api.Errno) {
	for i, s := range l {
		if found, e := match.First(s.Left, arg, nil); e == api.OK {
			return i, found, api.OK
		}
	}
	return 0, nil, api.ErrRecognition
}

func TestSameChoice(t *testing.T) {
	g := newGenerator(3)
	taken, less := 0, 0
	for range 2000 {
		l := g.sentences(8)
		built, _ := Build(l)
		for range 5 {
			arg := g.argument()
			i, want, e := first(l, arg)
			k, found, f := Run(l, built, arg)
			if i != k || textOf(want) != textOf(found) || e != f {
				t.Fatalf("Run of %s = %d, %s, %v, want %d, %s, %v", built.text(), k, textOf(found), f, i, textOf(want), e)
			}
			leftOut(t, l, built, arg)
			tries, _, _ := Tries(built, arg)
			if e == api.OK {
				taken++
			}
			if len(tries) < len(l) {
				less++
			}
		}
	}
	if taken < 2000 || less < 5000 {
		t.Errorf("%d arguments were taken, %d tried with fewer sentences", taken, less)
	}
}

// spoilt returns a graph in which something is another thing.
func (g generator) spoilt(of Graph, sentences int) Graph {
	var nodes []Node
	for _, n := range of.Nodes {
		nodes = append(nodes, Node{n.Place, slices.Clone(n.Edges), slices.Clone(n.Tries)})
	}
	n := &nodes[g.Intn(len(nodes))]
	switch g.Intn(6) {
	case 0:
		n.Tries = n.Tries[:max(len(n.Tries)-1, 0)]
	case 1:
		if sentences > 0 && len(n.Edges) == 0 {
			n.Tries = slices.Compact(slices.Sorted(slices.Values(append(n.Tries, g.Intn(sentences)))))
		}
	case 2:
		if len(n.Edges) > 0 {
			n.Edges[g.Intn(len(n.Edges))].To = g.Intn(len(nodes))
		}
	case 3:
		if len(n.Edges) > 3 {
			n.Edges = slices.Delete(n.Edges, 0, 1)
		}
	case 4:
		if len(n.Edges) > 0 {
			n.Place = Place{g.Intn(3), g.Intn(2) == 0}
		}
	case 5:
		if len(n.Edges) > 0 {
			n.Place, n.Edges, n.Tries = Place{}, nil, all(make([]api.Sentence, sentences))
		}
	}
	return Graph{nodes}
}

// A graph that Check takes chooses as all sentences do, whoever made it.
func TestSameChoiceOfOtherGraphs(t *testing.T) {
	g := newGenerator(4)
	right, wrong := 0, 0
	for range 6000 {
		l := g.sentences(4)
		built, _ := Build(l)
		other := g.spoilt(built, len(l))
		if Check(l, other) != api.OK {
			wrong++
			continue
		}
		right++
		for range 10 {
			arg := g.argument()
			i, want, e := first(l, arg)
			k, found, f := Run(l, other, arg)
			if i != k || textOf(want) != textOf(found) || e != f {
				t.Fatalf("Run of %s = %d, %s, %v, want %d, %s, %v", other.text(), k, textOf(found), f, i, textOf(want), e)
			}
		}
	}
	if right < 1000 || wrong < 1000 {
		t.Errorf("%d graphs were right, %d wrong", right, wrong)
	}
}
