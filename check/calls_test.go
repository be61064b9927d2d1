package check

import (
	"math/rand"
	"slices"
	"strings"
	"testing"

	"chiasmus/api"
	"chiasmus/term"
)

// everywhere returns a function with a call in each expression that there can be.
func everywhere(t *testing.T) api.Function {
	inner := block(t, list(sentence(t, "<K>", "<L>")), "<M>", "<N>")
	s := block(t, list(inner), "(<A>)", "<Z <B>>", "<C>", "<D>", "<B>", "(<E (<O>)>)")
	s.Right = parsed(t, "<R>")
	return function("A", sentence(t, "", "<A>"), s)
}

func TestCalled(t *testing.T) {
	f := everywhere(t)
	f.Sentences[1].Subject[0].Kids[0].Kids[0].Kids[0].Text = "1-1" // names may be anything
	want := []string{"1-1", "A", "B", "C", "D", "E", "K", "L", "M", "N", "R", "Z"}
	if l := Called(f); !slices.Equal(l, want) {
		t.Errorf("Called = %v, want %v", l, want)
	}
	if l := Foreign(program(f)); !slices.Equal(l, slices.DeleteFunc(slices.Clone(want), func(s string) bool { return s == "A" })) {
		t.Errorf("Foreign = %v", l)
	}
	if l := Called(function("F", sentence(t, "e.1", "a (e.1)"))); len(l) != 0 {
		t.Errorf("Called of a function without calls = %v", l)
	}
	var all []api.Function
	for _, name := range want {
		if Pure(program(append([]api.Function{f}, all...)...)) {
			t.Errorf("Pure without %s", name)
		}
		all = append(all, function(name))
	}
	if p := program(append(all, f)...); !Pure(p) || len(Foreign(p)) != 0 {
		t.Errorf("Pure with all: %v", Foreign(p))
	}
	if !Pure(program()) || len(Foreign(program())) != 0 {
		t.Error("Pure of nothing")
	}
}

// calling returns a program in which functions call others: "F:GH" has the function F that calls G and H.
func calling(texts ...string) api.Program {
	var p api.Program
	for _, s := range texts {
		name, called, _ := strings.Cut(s, ":")
		var l []api.Term
		for _, c := range called {
			l = append(l, api.Term{Kind: api.Call, Text: string(c)})
		}
		p.Functions = append(p.Functions, function(name, api.Sentence{Right: l}))
	}
	return p
}

func TestReached(t *testing.T) {
	for _, c := range []struct {
		p          api.Program
		from, want string
	}{
		{calling("F:G", "G:GH"), "F", "FG"},
		{calling("F:G", "G:GH"), "G", "G"},
		{calling("F:G", "G:GH"), "", ""},
		{calling("F:G", "G:GH"), "HX", ""},
		{calling("C:", "B:C", "A:B", "D:A"), "A", "CBA"},
		{calling("C:", "B:C", "A:B", "D:A"), "DD", "CBAD"},
		{calling("A:B", "B:A", "C:C", "D:"), "BD", "ABD"},
		{calling("A:B", "A:C", "B:", "C:"), "A", "AB"},
		{calling("B:", "A:B", "B:C", "C:"), "A", "BA"},
		{calling(), "A", ""},
	} {
		got := Reached(c.p, strings.Split(c.from, ""))
		if strings.Join(got, "") != c.want {
			t.Errorf("Reached(%v, %s) = %v, want %s", c.p, c.from, got, c.want)
		}
	}
}

func TestRecursive(t *testing.T) {
	for _, c := range []struct {
		p    api.Program
		want string
	}{
		{calling(), ""},
		{calling("F:G", "G:GH"), "G"},
		{calling("A:B", "B:C", "C:A", "D:A", "E:"), "ABC"},
		{calling("A:B", "B:C", "C:"), ""},
		{calling("A:A", "A:"), "A"},
		{calling("A:", "A:A"), ""},
		{calling("A:B", "B:", "B:A"), ""},
		{calling("D:C", "C:D", "X:D", "A:A"), "DCA"},
	} {
		if got := Recursive(c.p); strings.Join(got, "") != c.want {
			t.Errorf("Recursive(%v) = %v, want %s", c.p, got, c.want)
		}
	}
}

func TestLongChains(t *testing.T) {
	var p api.Program
	for i := range 2000 {
		name, next := long("x", i/50+1)+long("y", i%50), long("x", (i+1)/50+1)+long("y", (i+1)%50)
		p.Functions = append(p.Functions, function(name, api.Sentence{Right: []api.Term{{Kind: api.Call, Text: next}}}))
	}
	if l := Reached(p, []string{"x"}); len(l) != 2000 {
		t.Errorf("Reached of a chain has %d names", len(l))
	}
	if l := Recursive(p); len(l) != 0 {
		t.Errorf("Recursive of a chain has %d names", len(l))
	}
}

// subset reports whether all names of a list are in another one.
func subset(a, b []string) bool {
	return !slices.ContainsFunc(a, func(s string) bool { return !slices.Contains(b, s) })
}

func sorted(l []string) []string {
	l = slices.Clone(l)
	slices.Sort(l)
	return l
}

// chance returns a program whose functions call each other, and foreign ones, by chance.
func chance(r *rand.Rand) api.Program {
	var texts []string
	for _, name := range "ABCDEF"[:1+r.Intn(6)] {
		s := string(name) + ":"
		for range r.Intn(3) {
			s += string("ABCDEFXY"[r.Intn(8)])
		}
		texts = append(texts, s)
	}
	return calling(texts...)
}

func TestCallsByChance(t *testing.T) {
	r := rand.New(rand.NewSource(1))
	for range 2000 {
		p := chance(r)
		from := strings.Split("ABCDEFXY"[:1+r.Intn(8)], "")
		some := from[:r.Intn(len(from)+1)]
		if !subset(Reached(p, some), Reached(p, from)) {
			t.Fatalf("%v: what is reached from %v is not from %v", p, some, from)
		}
		if Pure(p) != (len(Foreign(p)) == 0) {
			t.Fatalf("%v: Pure is %v, Foreign %v", p, Pure(p), Foreign(p))
		}
		var recursive []string
		for _, f := range p.Functions {
			if slices.Contains(Reached(p, Called(f)), f.Name) {
				recursive = append(recursive, f.Name)
			}
			for _, name := range Reached(p, []string{f.Name}) {
				if Pure(p) && !subset(Called(p.Functions[Find(p, name)]), Reached(p, []string{f.Name})) {
					t.Fatalf("%v: %s reaches something foreign", p, f.Name)
				}
			}
		}
		if !slices.Equal(Recursive(p), recursive) {
			t.Fatalf("%v: Recursive = %v, want %v", p, Recursive(p), recursive)
		}
		other := program(slices.Clone(p.Functions)...)
		slices.Reverse(other.Functions)
		if !slices.Equal(sorted(Recursive(p)), sorted(Recursive(other))) || !slices.Equal(Foreign(p), Foreign(other)) ||
			!slices.Equal(sorted(Reached(p, from)), sorted(Reached(other, from))) {
			t.Fatalf("%v: other names with the functions in another order", p)
		}
	}
}

func TestOrderOfFunctions(t *testing.T) {
	for _, c := range sentenceCases(t) {
		l := []api.Function{function("A", api.Sentence{}), function("B", c.s), function("C", api.Sentence{})}
		_, e := Program(program(l...))
		slices.Reverse(l)
		if _, e2 := Program(program(l...)); (e == api.OK) != (e2 == api.OK) {
			t.Errorf("%s: %v, and in another order %v", c.name, e, e2)
		}
	}
	two := []api.Function{function("A", api.Sentence{}), function("B"), function("A", api.Sentence{})}
	for range 3 {
		if _, e := Program(program(two...)); e == api.OK {
			t.Error("a program that is not right, in another order")
		}
		two = append(two[1:], two[0])
	}
}

// expressionOf returns a right expression of kinds up to last with few variables.
func expressionOf(r *rand.Rand, last, depth int) []api.Term {
	var l []api.Term
	for range r.Intn(4) {
		u := api.Term{Kind: 4 + r.Intn(last-3)}
		if term.IsVariable(u) {
			u.Text = []string{"1", "2"}[r.Intn(2)]
		} else if depth > 0 {
			u.Kids = expressionOf(r, last, depth-1)
		}
		if u.Kind == api.Call {
			u.Text = "F"
		}
		l = append(l, u)
	}
	return l
}

// sentenceOf returns a sentence whose variables may be bound or not.
func sentenceOf(r *rand.Rand, blocks int) api.Sentence {
	s := api.Sentence{Left: expressionOf(r, api.EVar, 2)}
	for range r.Intn(2) {
		s.Tests = append(s.Tests, api.Test{Expr: expressionOf(r, api.Call, 1), Pattern: expressionOf(r, api.EVar, 1)})
	}
	if blocks == 0 || r.Intn(2) == 0 {
		s.Right = expressionOf(r, api.Call, 1)
		return s
	}
	s.Subject = expressionOf(r, api.Call, 1)
	for range 1 + r.Intn(2) {
		s.Block = append(s.Block, sentenceOf(r, blocks-1))
	}
	return s
}

// alone checks each sentence of a block by itself, where the variables of the patterns around it are bound.
func alone(t *testing.T, s api.Sentence, bound []string) {
	t.Helper()
	if e := Sentence(s, bound); e != api.OK {
		t.Fatalf("%v with %v = %v", s, bound, e)
	}
	bound = append(slices.Clone(bound), term.Variables(s.Left)...)
	for _, c := range s.Tests {
		bound = append(bound, term.Variables(c.Pattern)...)
	}
	for _, inner := range s.Block {
		alone(t, inner, bound)
	}
}

func TestBound(t *testing.T) {
	r := rand.New(rand.NewSource(2))
	all := []string{"s.1", "s.2", "t.1", "t.2", "e.1", "e.2"}
	right := 0
	for range 20000 {
		s := sentenceOf(r, 2)
		bound := all[:r.Intn(len(all))]
		if Sentence(s, all) != api.OK {
			t.Fatalf("%v with all variables = %v", s, Sentence(s, all))
		}
		if Sentence(s, bound) == api.OK {
			alone(t, s, bound)
			if Sentence(s, append([]string{"e.9"}, bound...)) != api.OK {
				t.Fatalf("%v has an error with more variables", s)
			}
		}
		if _, e := Program(program(function("F", s))); e == api.OK {
			right++
			alone(t, s, nil)
		} else if e != Sentence(s, nil) {
			t.Fatalf("%v is %v in a program", s, e)
		}
	}
	if right < 1000 {
		t.Errorf("only %d programs were right", right)
	}
}
