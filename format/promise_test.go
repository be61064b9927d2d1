package format

import (
	"math/rand"
	"slices"
	"testing"

	"chiasmus/api"
	"chiasmus/term"
)

// generator makes formats and values; its numbers are the same in each run.
type generator struct{ *rand.Rand }

func newGenerator(seed int64) generator { return generator{rand.New(rand.NewSource(seed))} }

// form returns one with lists of so many terms at most, and brackets so deep.
func (g generator) form(most, depth int) []api.Term {
	count := g.Intn(most + 1)
	open := g.Intn(2*count + 2)
	var l []api.Term
	for i := range count {
		kind := []int{api.SVar, api.SVar, api.TVar, api.Group, api.Group}[g.Intn(5)]
		if i == open {
			kind = api.EVar
		}
		x := api.Term{Kind: kind}
		if kind == api.Group && depth == 0 {
			x.Kind = api.TVar
		} else if kind == api.Group {
			x.Kids = g.form(most, depth-1)
		}
		l = append(l, x)
	}
	return l
}

// wider returns a form with the values of a form, and perhaps more.
func (g generator) wider(f []api.Term) []api.Term {
	l := split(slices.Clone(f))
	for _, part := range [][]api.Term{l.front, l.rear} {
		for i, x := range part {
			switch {
			case g.Intn(4) == 0:
				part[i] = api.Term{Kind: api.TVar}
			case x.Kind == api.Group:
				part[i] = group(g.wider(x.Kids))
			}
		}
	}
	if !l.open && g.Intn(3) == 0 {
		at := g.Intn(len(l.front) + 1)
		l = list{true, l.front[:at], l.front[at:]}
	}
	for l.open && g.Intn(2) == 0 && len(l.front) > 0 {
		l.front = l.front[:len(l.front)-1]
	}
	for l.open && g.Intn(2) == 0 && len(l.rear) > 0 {
		l.rear = l.rear[1:]
	}
	return l.terms()
}

// value returns one of a form.
func (g generator) value(f []api.Term, depth int) []api.Term {
	var l []api.Term
	for _, x := range f {
		switch x.Kind {
		case api.Group:
			l = append(l, group(g.value(x.Kids, depth-1)))
		case api.EVar:
			for range g.Intn(4) {
				l = append(l, g.term(depth))
			}
		case api.TVar:
			l = append(l, g.term(depth))
		default:
			l = append(l, g.symbol())
		}
	}
	return l
}

func (g generator) symbol() api.Term {
	return api.Term{Kind: 1 + g.Intn(3), Text: []string{"1", "7"}[g.Intn(2)]}
}

func (g generator) term(depth int) api.Term {
	if depth <= 0 || g.Intn(2) == 0 {
		return g.symbol()
	}
	return group(g.value([]api.Term{{Kind: api.EVar}}, depth-1))
}

// result returns what a function has, which must be no error.
func result[T any](t *testing.T, name string) func(x T, e api.Errno) T {
	return func(x T, e api.Errno) T {
		t.Helper()
		if e != api.OK {
			t.Fatalf("%s = %v", name, e)
		}
		return x
	}
}

// TestOrder has P22.2.
func TestOrder(t *testing.T) {
	g := newGenerator(221)
	isWithin, joinOf, cutOf := result[bool](t, "Within"), result[[]api.Term](t, "Join"), result[[]api.Term](t, "Cut")
	held, joinedOpen, wasCut := 0, 0, 0
	for i := range 20000 {
		most, depth := 4, 2
		if i%4 == 0 {
			most, depth = 16, 1
		}
		if i%40 == 0 {
			most, depth = 2, 7
		}
		f := named(g.form(most, depth))
		h := named(g.form(most, depth))
		if g.Intn(2) == 0 {
			h = named(g.wider(f))
		}
		k := named(g.wider(h))
		for _, x := range [][]api.Term{f, h, k} {
			if e := Check(x); e != api.OK {
				t.Fatalf("Check(%s) = %v", text(x), e)
			}
		}
		if !isWithin(Within(f, f)) {
			t.Fatalf("%s is not within itself", text(f))
		}
		if isWithin(Within(f, h)) && isWithin(Within(h, k)) {
			held++
			if !isWithin(Within(f, k)) {
				t.Fatalf("%s is within %s, and this within %s, but the first one not within the last one", text(f), text(h), text(k))
			}
		}
		join := joinOf(Join(f, h))
		if !isWithin(Within(f, join)) || !isWithin(Within(h, join)) {
			t.Fatalf("%s, %s are not within their join %s", text(f), text(h), text(join))
		}
		if !term.Equal(join, joinOf(Join(h, f))) || Check(join) != api.OK || !term.Equal(f, joinOf(Join(f, f))) {
			t.Fatalf("the joins of %s, %s are %s, %s", text(f), text(h), text(join), text(joinOf(Join(h, f))))
		}
		if split(join).open && !split(f).open {
			joinedOpen++
		}
		c := cutOf(Cut(f))
		if !isWithin(Within(f, c)) || Check(c) != api.OK || !small(c, 0) || small(f, 0) != term.Equal(f, c) {
			t.Fatalf("Cut(%s) = %s", text(f), text(c))
		}
		if !small(f, 0) {
			wasCut++
		}
	}
	if held < 3000 || joinedOpen < 1000 || wasCut < 500 {
		t.Errorf("only %d within, %d open joins, %d cut", held, joinedOpen, wasCut)
	}
}

// TestValues has P22.3.
func TestValues(t *testing.T) {
	g := newGenerator(222)
	isWithin, hasValue := result[bool](t, "Within"), result[bool](t, "Has")
	held, had, not := 0, 0, 0
	for range 20000 {
		f, h := named(g.form(4, 2)), named(g.form(4, 2))
		if g.Intn(3) == 0 {
			h = named(g.wider(f))
		}
		v := g.value(f, 3)
		if !hasValue(Has(f, v)) {
			t.Fatalf("%s has no %s", text(f), text(v))
		}
		if isWithin(Within(f, h)) {
			held++
			if !hasValue(Has(h, v)) {
				t.Fatalf("%s is within %s, which has no %s", text(f), text(h), text(v))
			}
		}
		of, returns, e := Of(v, nil)
		if e != api.OK || !returns || !hasValue(Has(of, v)) {
			t.Fatalf("Of(%s) = %s, %v, %v", text(v), text(of), returns, e)
		}
		for _, x := range [][]api.Term{f, h} {
			if hasValue(Has(x, v)) {
				had++
				if !isWithin(Within(of, x)) {
					t.Fatalf("%s has %s, but %s is not within it", text(x), text(v), text(of))
				}
			} else if not++; isWithin(Within(of, x)) {
				t.Fatalf("%s has no %s, but %s is within it", text(x), text(v), text(of))
			}
		}
	}
	if held < 1000 || had < 20000 || not < 1000 {
		t.Errorf("only %d within, %d values, %d others", held, had, not)
	}
}
