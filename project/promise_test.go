package project

import (
	"math/rand"
	"slices"
	"strings"
	"testing"

	"chiasmus/api"
	"chiasmus/check"
	"chiasmus/match"
	"chiasmus/term"
)

// generator makes patterns and values; its numbers are the same in each run.
type generator struct{ *rand.Rand }

func newGenerator(seed int64) generator { return generator{rand.New(rand.NewSource(seed))} }

func (g generator) value(most, depth int) []api.Term {
	var l []api.Term
	for range g.Intn(most + 1) {
		switch k := g.Intn(6); {
		case k < 2 && depth > 0:
			l = append(l, api.Term{Kind: api.Group, Kids: g.value(most/2, depth-1)})
		case k == 2:
			l = append(l, api.Term{Kind: api.Number, Text: "1"})
		default:
			l = append(l, term.Chars("ab"[g.Intn(2):][:1])...)
		}
	}
	return l
}

// pattern returns a pattern that matches a value, if no variable gets two values: it replaces parts of the value by variables.
func (g generator) pattern(value []api.Term, open int) []api.Term {
	var l []api.Term
	for i := 0; i < len(value); {
		name := []string{"1", "2", "3", "4"}[g.Intn(4)]
		switch k := g.Intn(9); {
		case k < open:
			i += g.Intn(len(value) - i + 1)
			l = append(l, api.Term{Kind: api.EVar, Text: name})
			continue
		case k == 4:
			l = append(l, api.Term{Kind: api.TVar, Text: name})
		case value[i].Kind == api.Group:
			l = append(l, api.Term{Kind: api.Group, Kids: g.pattern(value[i].Kids, open)})
		case k == 5:
			l = append(l, api.Term{Kind: api.SVar, Text: name})
		default:
			l = append(l, value[i])
		}
		i++
	}
	if g.Intn(4) == 0 {
		l = append(l, api.Term{Kind: api.EVar, Text: "5"})
	}
	return l
}

// task is a pattern, a value, and bindings that are given.
type task struct {
	pattern, value []api.Term
	given          []api.Binding
	names          []string
}

func (g generator) task() task {
	value := g.value(7, 2)
	x := task{pattern: g.pattern(value, 1+g.Intn(3)), value: value}
	if g.Intn(4) == 0 {
		x.value = g.value(7, 2)
	}
	for _, v := range []string{"e.1", "t.2", "s.3", "e.9"} {
		if g.Intn(5) > 0 {
			continue
		}
		b := api.Binding{Var: v, Value: g.value(2, 1)}
		if v[0] != 'e' {
			b.Value = term.Chars("a")
		}
		x.given = append(x.given, b)
		x.names = append(x.names, v)
	}
	return x
}

// slow does the operations of a plan in the plainest way: it puts each length of a variable in, and goes on from there.
type slow struct {
	plan  Plan
	done  int
	most  int
	found []map[string][]api.Term
}

func (s *slow) run(at int, holes [][]api.Term, values map[string][]api.Term) {
	if len(s.found) == s.most {
		return
	}
	if at == len(s.plan.Ops) {
		s.found = append(s.found, values)
		return
	}
	o := s.plan.Ops[at]
	l := holes[o.Hole]
	parts := 1 // how many lengths there are to try
	if o.Kind == Open {
		parts = len(l) + 1
	}
	for n := range parts {
		if len(s.found) == s.most {
			return
		}
		s.done++
		inner, taken := slices.Clone(holes), values
		part, ok := s.part(o, l, values, n)
		if !ok {
			return
		}
		inner[o.Hole] = l[len(part):]
		if o.Right {
			inner[o.Hole] = l[:len(l)-len(part)]
		}
		if o.Kind == Enter {
			inner = append(inner, part[0].Kids)
		}
		if o.Var != "" {
			taken = map[string][]api.Term{o.Var: part}
			for v, x := range values {
				taken[v] = x
			}
		}
		s.run(at+1, inner, taken)
	}
}

// part returns the terms that an operation takes away; false, if it fails.
func (s *slow) part(o Op, l []api.Term, values map[string][]api.Term, n int) ([]api.Term, bool) {
	switch o.Kind {
	case Empty:
		return nil, len(l) == 0
	case Close:
		return l, true
	case Open:
		return l[:n], true
	case Known:
		n = len(values[o.Var])
	default:
		n = 1
	}
	if n > len(l) {
		return nil, false
	}
	part := l[:n]
	if o.Right {
		part = l[len(l)-n:]
	}
	switch o.Kind {
	case Symbol:
		return part, term.Equal(part, []api.Term{o.Symbol})
	case Enter:
		return part, part[0].Kind == api.Group
	case TakeS:
		return part, term.IsSymbol(part[0])
	case Known:
		return part, term.Equal(part, values[o.Var])
	}
	return part, true
}

// matches returns the matches of a plan, and the number of operations.
func matches(p Plan, x task, most int) ([][]api.Binding, int) {
	s := slow{plan: p, most: most}
	values := map[string][]api.Term{}
	for _, b := range x.given {
		values[b.Var] = b.Value
	}
	s.run(0, [][]api.Term{x.value}, values)
	var all [][]api.Binding
	for _, found := range s.found {
		var l []api.Binding
		for _, v := range term.Variables(x.pattern) {
			if !slices.Contains(x.names, v) {
				l = append(l, api.Binding{Var: v, Value: found[v]})
			}
		}
		all = append(all, l)
	}
	return all, s.done
}

func textsOf(all [][]api.Binding) string {
	var l []string
	for _, b := range all {
		l = append(l, textOf(b))
	}
	return strings.Join(l, " | ")
}

func TestAgainstSlowRuns(t *testing.T) {
	g := newGenerator(1)
	opened, failed := 0, 0
	for range 20000 {
		x := g.task()
		p, e := Compile(x.pattern, x.names)
		if e != api.OK {
			t.Fatalf("Compile(%v) = %v", x.pattern, e)
		}
		want, ops := matches(p, x, 1)
		l, n, e := Run(p, x.value, x.given)
		if (e == api.OK) != (len(want) == 1) || e != api.OK && e != api.ErrMissing || n != ops || e == api.OK && textOf(l) != textOf(want[0]) {
			pattern, _ := term.Text(x.pattern)
			value, _ := term.Text(x.value)
			t.Fatalf("Run of %s (%s) with %s where %s = %s, %d, %v, want %s, %d", pattern, opsOf(p), value, textOf(x.given), textOf(l), n, e, textsOf(want), ops)
		}
		if Opens(p) > 0 && n > len(p.Ops) {
			opened++
		}
		if e != api.OK {
			failed++
		}
		all, e := All(p, x.value, x.given, 20)
		if want, _ := matches(p, x, 20); textsOf(all) != textsOf(want) || len(all) != len(want) || e != api.OK {
			t.Fatalf("All of %s = %s, %v, want %s", opsOf(p), textsOf(all), e, textsOf(want))
		}
	}
	if opened < 1000 || failed < 1000 || failed > 19000 {
		t.Errorf("%d runs lengthened variables, %d failed", opened, failed)
	}
}

func TestAgainstMatch(t *testing.T) {
	g := newGenerator(2)
	several := 0
	for range 20000 {
		x := g.task()
		p, _ := Compile(x.pattern, x.names)
		first, e := match.First(x.pattern, x.value, x.given)
		l, _, f := Run(p, x.value, x.given)
		if e != f || textOf(first) != textOf(l) {
			t.Fatalf("Run of %s = %s, %v, want %s, %v", opsOf(p), textOf(l), f, textOf(first), e)
		}
		want, _ := match.All(x.pattern, x.value, x.given, 50)
		all, e := All(p, x.value, x.given, 50)
		if textsOf(all) != textsOf(want) || len(all) != len(want) || e != api.OK {
			t.Fatalf("All of %s = %s, %v, want %s", opsOf(p), textsOf(all), e, textsOf(want))
		}
		if len(all) > 1 {
			several++
		}
	}
	if several < 500 {
		t.Errorf("only %d patterns had several matches", several)
	}
}

func TestPlans(t *testing.T) {
	g := newGenerator(3)
	strict := 0
	for range 20000 {
		x := g.task()
		p, _ := Compile(x.pattern, x.names)
		if e := Check(p); e != api.OK || !slices.Equal(p.Given, x.names) {
			t.Fatalf("Check(%s) = %v", opsOf(p), e)
		}
		if l, e := Pattern(p); !term.Equal(l, x.pattern) || e != api.OK {
			t.Fatalf("Pattern of %s = %v, %v, want %v", opsOf(p), l, e, x.pattern)
		}
		nodes, _ := term.Size(x.pattern)
		holes, closed := 1, 0
		for _, o := range p.Ops {
			if o.Kind == Enter {
				holes++
			}
			if o.Kind == Close {
				closed++
			}
		}
		if len(p.Ops) != nodes+holes-closed {
			t.Fatalf("%s has %d operations for %d items, and %d of %d holes closed", opsOf(p), len(p.Ops), nodes, closed, holes)
		}
		if check.StrictPattern(x.pattern, x.names) {
			strict++
			if Opens(p) > 0 {
				t.Fatalf("the plan of a strict pattern is %s", opsOf(p))
			}
		}
		if Opens(p) > 0 {
			continue
		}
		if cost, e := Cost(p, g.Intn(20001)); cost != float32(len(p.Ops)) || e != api.OK {
			t.Fatalf("Cost of %s = %v, %v", opsOf(p), cost, e)
		}
		if _, n, _ := Run(p, x.value, x.given); n > len(p.Ops) {
			t.Fatalf("Run of %s takes %d operations", opsOf(p), n)
		}
	}
	if strict < 2000 {
		t.Errorf("only %d patterns were strict", strict)
	}
}

// A result shares nothing with the value or the bindings, which are left as they are.
func TestRunMemory(t *testing.T) {
	x := task{pattern: parsed(t, "e.1 t.2"), value: parsed(t, "('a') ('b')")}
	l, _, _ := Run(plan(t, "e.1 t.2"), x.value, nil)
	l[0].Value[0].Kids[0].Text = "x"
	l[1].Value[0].Kids[0].Text = "y"
	if s, _ := term.Text(x.value); s != "('a') ('b')" {
		t.Errorf("the value became %s", s)
	}
	long := append(make([]api.Binding, 0, 4), binding(t, "e.1", "'a'"))
	Run(plan(t, "e.1 e.2", "e.1"), parsed(t, "'ab'"), long)
	if textOf(long) != "e.1='a';" || long[:2][1].Var != "" {
		t.Errorf("the bindings became %s", textOf(long))
	}
}

// Long values and deep ones take no more than their size.
func TestLarge(t *testing.T) {
	value := parsed(t, strings.Repeat("a ", 3999)+"b")
	l, n, e := Run(plan(t, "e.1 b e.2"), value, nil)
	if len(l) != 2 || len(l[0].Value) != 3999 || n != 8001 || e != api.OK {
		t.Errorf("Run of a long value = %d bindings, %d, %v", len(l), n, e)
	}
	deep := strings.Repeat("(", 100) + "e.1" + strings.Repeat(")", 100)
	l, n, e = Run(plan(t, deep), parsed(t, strings.Replace(deep, "e.1", "a b", 1)), nil)
	if textOf(l) != "e.1=a b;" || n != 201 || e != api.OK {
		t.Errorf("Run of a deep value = %s, %d, %v", textOf(l), n, e)
	}
}
