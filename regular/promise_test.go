package regular

import (
	"math/rand"
	"slices"
	"testing"

	"chiasmus/api"
	"chiasmus/term"
)

// generator makes automata and values; its numbers are the same in each run.
type generator struct{ *rand.Rand }

func newGenerator(seed int64) generator { return generator{rand.New(rand.NewSource(seed))} }

// few returns the symbols of most automata and values.
func few() []api.Term {
	return []api.Term{char("a"), char("b"), char("c"), word("A"), word("a"), {Kind: api.Number, Text: "0"}, {Kind: api.Number, Text: "1"}}
}

func (g generator) symbol() api.Term { return few()[g.Intn(len(few()))] }

// automaton returns one of a few states and edges.
func (g generator) automaton(states, edges int) Automaton {
	a := Automaton{States: 1 + g.Intn(states)}
	edges = edges/2 + g.Intn(edges/2+1)
	a.Start = g.Intn(a.States)
	for q := range a.States {
		if g.Intn(3) == 0 {
			a.Final = append(a.Final, q)
		}
	}
	for range edges {
		x := Edge{From: g.Intn(a.States), To: g.Intn(a.States), Kind: []int{One, One, Chars, Words, Numbers, Nest, Nest}[g.Intn(7)]}
		switch x.Kind {
		case One:
			x.Symbol = g.symbol()
		case Nest:
			x.Inner = g.Intn(a.States)
		default:
			for _, t := range few() {
				if t.Kind == x.symbols() && g.Intn(2) == 0 {
					x.Except = append(x.Except, t)
				}
			}
			slices.SortFunc(x.Except, compare)
		}
		a.Edges = append(a.Edges, x)
	}
	return a
}

func (g generator) value(depth int) []api.Term {
	var l []api.Term
	for range g.Intn(4) {
		if depth > 0 && g.Intn(3) == 0 {
			l = append(l, api.Term{Kind: api.Group, Kids: g.value(depth - 1)})
		} else {
			l = append(l, g.symbol())
		}
	}
	return l
}

// valueOf returns a value by a walk through an automaton, perhaps one that it accepts.
func (g generator) valueOf(a Automaton, q, depth int) []api.Term {
	var l []api.Term
	out := a.byState()
	for range 4 {
		if len(out[q]) == 0 || slices.Contains(a.Final, q) && g.Intn(3) == 0 {
			break
		}
		x := out[q][g.Intn(len(out[q]))]
		t := api.Term{Kind: api.Group}
		if x.Kind == Nest && depth > 0 {
			t.Kids = g.valueOf(a, x.Inner, depth-1)
		}
		for x.Kind != Nest && !x.Reads(t) {
			t = append(few(), char("d"), word("b"), api.Term{Kind: api.Number, Text: "2"})[g.Intn(10)]
		}
		l = append(l, t)
		q = x.To
	}
	return l
}

// accepts is the definition: whether a value is accepted from a state, where an edge reads symbols in some way.
func accepts(a Automaton, q int, v []api.Term, reads func(Edge, api.Term) bool) bool {
	if len(v) == 0 {
		return slices.Contains(a.Final, q)
	}
	for _, x := range a.Edges {
		if x.From != q {
			continue
		}
		read := reads(x, v[0])
		if x.Kind == Nest {
			read = v[0].Kind == api.Group && accepts(a, x.Inner, v[0].Kids, reads)
		}
		if read && accepts(a, x.To, v[1:], reads) {
			return true
		}
	}
	return false
}

func isOne(x, y api.Term) bool { return term.Equal([]api.Term{x}, []api.Term{y}) }

// readsSymbol is what the chapter says.
func readsSymbol(x Edge, t api.Term) bool {
	excepted := slices.ContainsFunc(x.Except, func(y api.Term) bool { return isOne(t, y) })
	switch x.Kind {
	case One:
		return isOne(x.Symbol, t)
	case Chars:
		return t.Kind == api.Char && !excepted
	case Words:
		return t.Kind == api.Word && !excepted
	case Numbers:
		return t.Kind == api.Number && !excepted
	}
	return false
}

func has(t *testing.T, a Automaton, v []api.Term) bool {
	t.Helper()
	ok, e := Has(a, v)
	if e != api.OK {
		t.Fatalf("Has of %s = %v", a.text(), e)
	}
	return ok
}

// trimmed fails, if an automaton is not its own Trim.
func isTrimmed(t *testing.T, a Automaton) {
	t.Helper()
	if again := must(t, "Trim")(Trim(a)); again.text() != a.text() {
		t.Fatalf("Trim of %s is %s", a.text(), again.text())
	}
}

// TestOperations has P23.2 and P23.3.
func TestOperations(t *testing.T) {
	g := newGenerator(231)
	held := map[string]int{}
	for range 1500 {
		a, b := g.automaton(3, 8), g.automaton(3, 8)
		inA := func(v []api.Term) bool { return accepts(a, a.Start, v, readsSymbol) }
		inB := func(v []api.Term) bool { return accepts(b, b.Start, v, readsSymbol) }
		var star func(v []api.Term) bool
		star = func(v []api.Term) bool {
			for i := 1; i <= len(v); i++ {
				if inA(v[:i]) && star(v[i:]) {
					return true
				}
			}
			return len(v) == 0
		}
		concat := func(v []api.Term) bool {
			for i := range len(v) + 1 {
				if inA(v[:i]) && inB(v[i:]) {
					return true
				}
			}
			return false
		}
		made := map[string]Automaton{
			"itself": a, "Trim": must(t, "Trim")(Trim(a)), "Wrap": must(t, "Wrap")(Wrap(a)), "Star": must(t, "Star")(Star(a)), "Not": must(t, "Not")(Not(a)),
			"Union": must(t, "Union")(Union(a, b)), "Both": must(t, "Both")(Both(a, b)), "Concat": must(t, "Concat")(Concat(a, b)),
			"NotNot": must(t, "Not")(Not(must(t, "Not")(Not(a)))),
		}
		for i := range 40 {
			v := g.value(2)
			if i >= 20 {
				from := []Automaton{a, b, made["Both"], made["Concat"], made["Star"]}[i%5]
				v = g.valueOf(from, from.Start, 1)
			}
			for name, want := range map[string]bool{
				"itself": inA(v), "Trim": inA(v), "NotNot": inA(v), "Not": !inA(v), "Union": inA(v) || inB(v), "Both": inA(v) && inB(v), "Star": star(v), "Concat": concat(v),
				"Wrap": len(v) == 1 && v[0].Kind == api.Group && inA(v[0].Kids),
			} {
				if got := has(t, made[name], v); got != want {
					t.Fatalf("%s of %s and %s, which is %s, has %s: %v", name, a.text(), b.text(), made[name].text(), text(v), got)
				}
				if want && len(v) > 1 || want && name == "Wrap" {
					held[name]++
				}
			}
		}
		for name, c := range made {
			if name != "itself" {
				isTrimmed(t, c)
			}
		}
	}
	for name, least := range map[string]int{"itself": 500, "Not": 5000, "Union": 1000, "Both": 100, "Star": 1000, "Concat": 1000, "Wrap": 100} {
		if held[name] < least {
			t.Errorf("%s held %d times only", name, held[name])
		}
	}
}

// TestWithin has P23.4 and P23.5.
func TestWithin(t *testing.T) {
	g := newGenerator(232)
	within, not, large := 0, 0, 0
	for range 3000 {
		a, b := g.automaton(3, 5), g.automaton(3, 8)
		if g.Intn(2) == 0 {
			b = must(t, "Union")(Union(a, b))
		}
		ok, v, e := Within(a, b)
		outside := must(t, "Both")(Both(a, must(t, "Not")(Not(b))))
		least, found, e2 := Least(outside)
		if e == api.ErrLarge {
			large++
			continue
		}
		if e != api.OK || e2 != api.OK || ok == found || !term.Equal(v, least) {
			t.Fatalf("Within of %s and %s = %v, %s, %v, but Least is %s, %v, %v", a.text(), b.text(), ok, text(v), e, text(least), found, e2)
		}
		if !ok {
			not++
			if !has(t, a, v) || has(t, b, v) {
				t.Fatalf("%s is no value of %s that %s has not", text(v), a.text(), b.text())
			}
			continue
		}
		within++
		for range 30 {
			if v := g.valueOf(a, a.Start, 2); has(t, a, v) && !has(t, b, v) {
				t.Fatalf("%s is within %s, but not with %s", a.text(), b.text(), text(v))
			}
		}
	}
	if within < 500 || not < 500 || large > 10 {
		t.Errorf("%d within, %d not, %d too large", within, not, large)
	}
}

// TestLaws has P23.5.
func TestLaws(t *testing.T) {
	g := newGenerator(233)
	isWithin := func(a, b Automaton) bool {
		t.Helper()
		ok, v, e := Within(a, b)
		if e != api.OK {
			t.Fatalf("Within of %s and %s = %v, %s, %v", a.text(), b.text(), ok, text(v), e)
		}
		return ok
	}
	for range 500 {
		a := g.automaton(3, 6)
		other := must(t, "Not")(Not(a))
		again := must(t, "Not")(Not(other))
		if v, ok, e := Least(must(t, "Both")(Both(a, other))); ok || len(v) > 0 || e != api.OK {
			t.Fatalf("%s and not it have %s, %v", a.text(), text(v), e)
		}
		if !isWithin(a, again) || !isWithin(again, a) || !isWithin(Any(), must(t, "Union")(Union(a, other))) {
			t.Fatalf("not not %s is %s", a.text(), again.text())
		}
		v, w := g.value(2), g.value(2)
		exact := must(t, "Exactly")(Exactly(v))
		if !has(t, exact, v) || has(t, exact, w) != term.Equal(v, w) || !has(t, Any(), v) {
			t.Fatalf("Exactly of %s is %s", text(v), exact.text())
		}
		if least, ok, e := Least(exact); !ok || !term.Equal(least, v) || e != api.OK {
			t.Fatalf("Least of %s is %s", exact.text(), text(least))
		}
		rest := must(t, "Both")(Both(exact, must(t, "Not")(Not(exact))))
		if rest.text() != "1 states from 0 to" || isWithin(a, exact) && has(t, a, w) && !term.Equal(v, w) {
			t.Fatalf("%s has more than %s", exact.text(), text(v))
		}
	}
}

// firstOf returns the symbol that an edge for a kind reads in Least.
func firstOf(x Edge) api.Term {
	names := map[int][]string{Chars: {"a", "b", "c", "d"}, Words: {"a", "b"}, Numbers: {"0", "1", "2"}}
	for _, name := range names[x.Kind] {
		t := api.Term{Kind: x.symbols(), Text: name}
		if readsSymbol(x, t) {
			return t
		}
	}
	panic("an edge without a symbol")
}

// valuesOf returns all values of so many terms of some symbols.
func valuesOf(size int, symbols []api.Term) [][]api.Term {
	if size == 0 {
		return [][]api.Term{nil}
	}
	var l [][]api.Term
	put := func(first api.Term, left int) {
		for _, rest := range valuesOf(left, symbols) {
			l = append(l, append([]api.Term{first}, rest...))
		}
	}
	for _, t := range symbols {
		put(t, size-1)
	}
	for inner := range size {
		for _, kids := range valuesOf(inner, symbols) {
			put(api.Term{Kind: api.Group, Kids: kids}, size-1-inner)
		}
	}
	return l
}

// TestLeastOfAll compares Least with a search among all values with few terms.
func TestLeastOfAll(t *testing.T) {
	g := newGenerator(234)
	sizes := map[int]int{}
	firsts := append(few(), char("d"), word("b"), api.Term{Kind: api.Number, Text: "2"})
	var values [][]api.Term
	for size := range 4 {
		l := valuesOf(size, firsts)
		slices.SortFunc(l, term.Compare)
		values = append(values, l...)
	}
	reads := func(x Edge, t api.Term) bool {
		if x.Kind == One || x.Kind == Nest {
			return readsSymbol(x, t)
		}
		return isOne(t, firstOf(x))
	}
	for range 1500 {
		a := g.automaton(6, 16)
		if len(a.Final) > 1 {
			a.Final = a.Final[:1]
		}
		v, ok, e := Least(a)
		if e != api.OK {
			t.Fatalf("Least of %s = %v", a.text(), e)
		}
		i := slices.IndexFunc(values, func(v []api.Term) bool { return accepts(a, a.Start, v, reads) })
		nodes, _ := term.Size(v)
		if i < 0 && ok && nodes <= 3 || i >= 0 && (!ok || !term.Equal(v, values[i])) {
			t.Fatalf("Least of %s = %s, %v", a.text(), text(v), ok)
		}
		if ok && !has(t, a, v) {
			t.Fatalf("%s does not have %s", a.text(), text(v))
		}
		if !ok {
			nodes = -1
		}
		sizes[nodes]++
	}
	if sizes[-1] < 100 || sizes[0] < 100 || sizes[1] < 100 || sizes[2] < 50 || sizes[3] < 10 {
		t.Errorf("the sizes are %v", sizes)
	}
}
