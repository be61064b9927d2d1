package check

import (
	"math/rand"
	"slices"
	"strings"
	"testing"

	"chiasmus/api"
	"chiasmus/term"
)

func TestStrictPattern(t *testing.T) {
	for _, c := range []struct {
		pattern, bound string
		want           bool
	}{
		{"", "", true},
		{"a 'b' 1 (c)", "", true},
		{"e.1", "", true},
		{"s.1 e.2 s.1", "", true},
		{"s.1 s.1 (s.1)", "", true},
		{"t.1 e.2 t.3", "", true},
		{"e.1 'a' e.2", "", false},
		{"e.1 'a' e.2", "e.1", true},
		{"e.1 'a' e.2", "e.2", true},
		{"e.1 'a' e.2", "s.1 t.2", false},
		{"e.1 e.1", "", false},
		{"e.1 e.1", "e.1", true},
		{"e.1 (e.1)", "", false},
		{"e.1 (e.1)", "e.1", true},
		{"(e.1) (e.1)", "", false},
		{"(e.1) (e.2) e.3", "", true},
		{"(e.1 e.3) e.2", "", false},
		{"(e.1 e.3) e.2", "e.3", true},
		{"((e.1 a e.2))", "", false},
		{"(e.1 (e.2 (e.3)))", "", true},
		{"t.1 t.1", "", false},
		{"t.1 t.1", "t.1", true},
		{"t.1 (t.1)", "", false},
		{"(t.1) (t.1)", "", false},
		{"(t.1) (t.1)", "t.1", true},
		{"t.1 s.1 e.1", "", true},
		{"e.1 e.2 e.3", "e.2 e.3 e.4", true},
		{"e.1 e.2 e.3", "e.2 e.2", false},
		{"<F e.1 e.2>", "", false},
		{"<F e.1> e.2", "", true},
	} {
		bound := strings.Fields(c.bound)
		if StrictPattern(parsed(t, c.pattern), bound) != c.want {
			t.Errorf("StrictPattern(%s, %v)", c.pattern, bound)
		}
	}
	odd := []api.Term{{Kind: api.Char, Text: "a", Kids: parsed(t, "e.1 e.2")}}
	if StrictPattern(odd, nil) || !StrictPattern(odd, []string{"e.1"}) {
		t.Error("the Kids of a symbol")
	}
	nameless := []api.Term{{Kind: api.EVar}, {Kind: api.EVar}}
	if StrictPattern(nameless, nil) || !StrictPattern(nameless, []string{"e."}) {
		t.Error("variables that are not right")
	}
}

func TestStrict(t *testing.T) {
	const choice = "e.1 a e.2"
	plain := sentence(t, "e.1", "")
	for _, c := range []struct {
		name string
		p    api.Program
		want bool
	}{
		{"nothing", program(), true},
		{"results do not matter", program(function("F", sentence(t, "e.1", "e.1 e.1 e.2"))), true},
		{"a Left", program(function("F", plain), function("G", plain, sentence(t, choice, ""))), false},
		{"a Left does not see the sentence before", program(function("F", sentence(t, "e.1", ""), sentence(t, choice, ""))), false},
		{"a Test", program(function("F", sentence(t, "", "", choice, ""))), false},
		{"a Test sees the Left", program(function("F", sentence(t, "e.1", "", choice, ""))), true},
		{"a Test sees the Tests before", program(function("F", sentence(t, "", "", "e.2", "", choice, ""))), true},
		{"a Test does not see those behind", program(function("F", sentence(t, "", "", choice, "", "e.1", ""))), false},
		{"a Test's Expr does not bind", program(function("F", sentence(t, "", "e.1", choice, ""))), false},
		{"a block", program(function("F", block(t, list(plain, sentence(t, choice, "")), "", ""))), false},
		{"a block sees the Left", program(function("F", block(t, list(plain, sentence(t, choice, "")), "e.1", ""))), true},
		{"a block sees the Tests", program(function("F", block(t, list(sentence(t, choice, "")), "", "", "e.2", ""))), true},
		{"a block does not see the sentence before", program(function("F", block(t, list(plain, sentence(t, choice, "")), "", ""))), false},
		{"a block's block", program(function("F", block(t, list(block(t, list(sentence(t, choice, "")), "s.1", "")), "e.2", ""))), true},
		{"a block's block with a choice", program(function("F", block(t, list(block(t, list(sentence(t, choice, "")), "s.1", "")), "s.2", ""))), false},
		{"a Test in a block", program(function("F", block(t, list(sentence(t, "", "", choice, "")), "s.2", ""))), false},
		{"a Test in a block sees all", program(function("F", block(t, list(sentence(t, "", "", choice, "")), "e.2", ""))), true},
	} {
		if Strict(c.p) != c.want {
			t.Errorf("%s: Strict = %v", c.name, !c.want)
		}
	}
}

func TestLinear(t *testing.T) {
	for _, c := range []struct {
		name string
		s    api.Sentence
		want bool
	}{
		{"nothing", api.Sentence{}, true},
		{"patterns do not matter", sentence(t, "e.1 e.1 t.2 t.2", "", "e.1 t.2", "e.1 t.2"), true},
		{"s-variables do not matter", sentence(t, "s.1", "s.1 (s.1 <F s.1>)"), true},
		{"kinds are different", sentence(t, "", "s.1 t.1 e.1"), true},
		{"an e-variable twice", sentence(t, "", "e.1 e.1"), false},
		{"a t-variable twice", sentence(t, "", "t.1 (t.1)"), false},
		{"within calls and groups", sentence(t, "", "(e.1) <F (<G e.1>)>"), false},
		{"a Test and the Right", sentence(t, "", "e.1", "", "e.1"), false},
		{"two Tests", sentence(t, "", "e.1", "", "e.1", "", ""), false},
		{"a Test alone", sentence(t, "", "e.1", "", "e.2"), true},
		{"the Subject and the Right", api.Sentence{Subject: parsed(t, "e.1"), Right: parsed(t, "e.1")}, false},
		{"the Subject and a block", block(t, list(sentence(t, "", "e.1")), "", "e.1"), false},
		{"two sentences of a block", block(t, list(sentence(t, "", "e.1"), sentence(t, "", "e.1")), "", ""), false},
		{"a block's Tests", block(t, list(sentence(t, "", "e.1", "", "")), "", "e.1"), false},
		{"a block's block", block(t, list(block(t, list(sentence(t, "", "e.1")), "", "")), "", "e.1"), false},
		{"a block's Subject", block(t, list(block(t, list(sentence(t, "", "")), "", "e.1")), "", "e.1"), false},
		{"a block with other variables", block(t, list(sentence(t, "e.1 e.2", "e.2"), sentence(t, "e.3", "e.3")), "e.1", "e.1"), true},
	} {
		if Linear(c.s) != c.want {
			t.Errorf("%s: Linear = %v", c.name, !c.want)
		}
	}
}

// parts calls a function with each list of terms in an expression.
func parts(l []api.Term, f func([]api.Term)) {
	f(l)
	for _, u := range l {
		parts(u.Kids, f)
	}
}

func TestStrictByChance(t *testing.T) {
	r := rand.New(rand.NewSource(3))
	all := []string{"e.1", "t.1", "e.2", "t.2", "s.1"}
	strict := 0
	for range 10000 {
		l := expressionOf(r, api.EVar, 2)
		bound := all[:r.Intn(len(all))]
		if !StrictPattern(l, bound) {
			continue
		}
		strict++
		if !StrictPattern(l, append(slices.Clone(bound), all[r.Intn(len(all))])) {
			t.Fatalf("%v is not strict with more variables than %v", l, bound)
		}
		parts(l, func(part []api.Term) {
			from := r.Intn(len(part) + 1)
			to := from + r.Intn(len(part)-from+1)
			if !StrictPattern(part, bound) || !StrictPattern(part[from:to], bound) {
				t.Fatalf("%v is strict, but not its part %v", l, part)
			}
		})
	}
	if strict < 2000 {
		t.Errorf("only %d patterns were strict", strict)
	}
}

// anything returns a sentence that may be nothing right.
func anything(r *rand.Rand, depth int) api.Sentence {
	var any func(depth int) []api.Term
	any = func(depth int) []api.Term {
		var l []api.Term
		for range r.Intn(3) {
			u := api.Term{Kind: r.Intn(12) - 1, Text: []string{"", "F", "1", "0x", "\n"}[r.Intn(5)]}
			if depth > 0 {
				u.Kids = any(depth - 1)
			}
			l = append(l, u)
		}
		return l
	}
	s := api.Sentence{Left: any(2), Right: any(2), Subject: any(1)}
	for range r.Intn(3) {
		s.Tests = append(s.Tests, api.Test{Expr: any(1), Pattern: any(1)})
	}
	for range r.Intn(2) * depth {
		s.Block = append(s.Block, anything(r, depth-1))
	}
	return s
}

func TestAnyPrograms(t *testing.T) {
	r := rand.New(rand.NewSource(4))
	for range 5000 {
		var p api.Program
		for range r.Intn(3) {
			p.Functions = append(p.Functions, function([]string{"F", "", "1"}[r.Intn(3)], anything(r, 2)))
		}
		at, e := Program(p)
		if e == api.OK && (at.Function != 0 || len(at.Path) != 0) {
			t.Fatalf("Program(%v) = %v", p, at)
		}
		if Pure(p) != (len(Foreign(p)) == 0) || !subset(Recursive(p), Reached(p, append(Foreign(p), "F", "", "1"))) {
			t.Fatalf("%v: Pure, Foreign or Recursive", p)
		}
		for _, f := range p.Functions {
			s := f.Sentences[0]
			if !StrictPattern(s.Left, term.Variables(s.Left)) {
				t.Fatalf("%v is not strict with all variables", s.Left)
			}
			if Strict(program(f)) && !StrictPattern(s.Left, nil) || !Linear(s) && Linear(api.Sentence{Block: list(s)}) {
				t.Fatalf("%v: Strict or Linear", f)
			}
		}
	}
}
