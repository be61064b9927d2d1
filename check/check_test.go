package check

import (
	"slices"
	"strings"
	"testing"

	"chiasmus/api"
	"chiasmus/term"
)

var long = strings.Repeat

func parsed(t *testing.T, s string) []api.Term {
	t.Helper()
	l, at, e := term.Parse(s)
	if e != api.OK {
		t.Fatalf("Parse(%q) = %d, %v", s, at, e)
	}
	return l
}

// sentence returns a sentence from the texts of its expressions: the pattern, those of conditions, and the result.
func sentence(t *testing.T, texts ...string) api.Sentence {
	t.Helper()
	last := len(texts) - 1
	s := api.Sentence{Left: parsed(t, texts[0]), Right: parsed(t, texts[last])}
	for i := 1; i+1 < last; i += 2 {
		s.Tests = append(s.Tests, api.Test{Expr: parsed(t, texts[i]), Pattern: parsed(t, texts[i+1])})
	}
	return s
}

// block returns a sentence whose last text is that of the subject of a block.
func block(t *testing.T, l []api.Sentence, texts ...string) api.Sentence {
	t.Helper()
	s := sentence(t, texts...)
	s.Subject, s.Right, s.Block = s.Right, nil, l
	return s
}

func list(l ...api.Sentence) []api.Sentence { return l }

func function(name string, l ...api.Sentence) api.Function {
	return api.Function{Name: name, Sentences: l}
}

func program(l ...api.Function) api.Program { return api.Program{Functions: l} }

// within returns a sentence within so many blocks.
func within(s api.Sentence, blocks int) api.Sentence {
	for range blocks {
		s = api.Sentence{Block: list(s)}
	}
	return s
}

type sentenceCase struct {
	name string
	s    api.Sentence
	want api.Errno
	path []int // behind the sentence
}

func sentenceCases(t *testing.T) []sentenceCase {
	many, wrong := term.Chars(long("a", 4001)), []api.Term{{Kind: api.Word}}
	var deep []api.Term
	for range 101 {
		deep = []api.Term{{Kind: api.Group, Kids: deep}}
	}
	call, free := parsed(t, "<F>"), parsed(t, "e.free")
	calls := append(slices.Clone(wrong), call...)
	return []sentenceCase{
		{"nothing", api.Sentence{}, api.OK, nil},
		{"bound variables", sentence(t, "s.1 t.2 (e.3)", "<F (e.3 s.1) t.2>"), api.OK, nil},
		{"variables of conditions", sentence(t, "e.1", "<F e.1>", "e.2", "e.1 e.2", "s.3", "s.3 e.2 e.1"), api.OK, nil},
		{"as many conditions as may be", api.Sentence{Tests: make([]api.Test, 8)}, api.OK, nil},
		{"variables of a block", block(t, list(sentence(t, "e.3", "e.1 e.2 e.3"), sentence(t, "e.3", "e.3")), "e.1", "", "e.2", "e.1 e.2"), api.OK, nil},
		{"as many sentences of a block as may be", api.Sentence{Block: make([]api.Sentence, 40)}, api.OK, nil},
		{"as many blocks as may be", within(api.Sentence{}, 6), api.OK, nil},

		{"too many conditions", api.Sentence{Tests: make([]api.Test, 9)}, api.ErrCount, nil},
		{"conditions ahead of the pattern", api.Sentence{Left: call, Tests: make([]api.Test, 9)}, api.ErrCount, nil},
		{"a call in the pattern", api.Sentence{Left: parsed(t, "a (b <F>)")}, ErrCalls, nil},
		{"a call ahead of a wrong term", api.Sentence{Left: calls}, ErrCalls, nil},
		{"a call ahead of too many terms", api.Sentence{Left: append(slices.Clone(many), call...)}, ErrCalls, nil},
		{"a pattern that is not right", api.Sentence{Left: wrong}, api.ErrForm, nil},
		{"a pattern with too many terms", api.Sentence{Left: many}, api.ErrCount, nil},
		{"a pattern too deep", api.Sentence{Left: deep}, api.ErrDepth, nil},
		{"the pattern ahead of conditions", api.Sentence{Left: many, Tests: []api.Test{{Expr: free}}}, api.ErrCount, nil},

		{"a condition that is not right", api.Sentence{Tests: []api.Test{{Expr: wrong}}}, api.ErrForm, nil},
		{"a condition that is not right and unbound", api.Sentence{Tests: []api.Test{{Expr: append(slices.Clone(free), deep...)}}}, api.ErrDepth, nil},
		{"an unbound variable of a condition", sentence(t, "e.1", "e.2", "e.2", ""), ErrUnbound, nil},
		{"an unbound variable within", sentence(t, "e.1", "a (<F s.1>)", "", ""), ErrUnbound, nil},
		{"a variable of another kind", sentence(t, "e.1", "t.1", "", ""), ErrUnbound, nil},
		{"a condition ahead of its pattern", api.Sentence{Tests: []api.Test{{Expr: free, Pattern: call}}}, ErrUnbound, nil},
		{"a call in a condition's pattern", api.Sentence{Tests: []api.Test{{Pattern: calls}}}, ErrCalls, nil},
		{"a condition's pattern that is not right", api.Sentence{Tests: []api.Test{{Pattern: deep}}}, api.ErrDepth, nil},
		{"a condition's pattern ahead of the next condition", api.Sentence{Tests: []api.Test{{Pattern: call}, {Expr: wrong}}}, ErrCalls, nil},
		{"a variable that a later condition binds", sentence(t, "e.1", "e.2", "", "", "e.2", ""), ErrUnbound, nil},
		{"conditions ahead of the result", api.Sentence{Tests: []api.Test{{Expr: wrong}}, Right: free}, api.ErrForm, nil},
		{"conditions ahead of a block", api.Sentence{Tests: []api.Test{{Expr: wrong}}, Right: call, Block: list(api.Sentence{})}, api.ErrForm, nil},

		{"a result and a block", api.Sentence{Right: call, Subject: free, Block: list(api.Sentence{})}, ErrBlock, nil},
		{"a subject that is not right", api.Sentence{Subject: append(slices.Clone(free), wrong...), Block: make([]api.Sentence, 41)}, api.ErrForm, nil},
		{"an unbound subject", api.Sentence{Subject: free, Block: make([]api.Sentence, 41)}, ErrUnbound, nil},
		{"too many sentences in a block", api.Sentence{Block: make([]api.Sentence, 41)}, api.ErrCount, nil},
		{"too many of them in too many blocks", within(api.Sentence{Block: make([]api.Sentence, 41)}, 6), api.ErrCount, []int{0, 0, 0, 0, 0, 0}},
		{"too many blocks", within(api.Sentence{}, 7), api.ErrDepth, []int{0, 0, 0, 0, 0, 0}},
		{"too many blocks ahead of what is in them", within(api.Sentence{Left: call}, 7), api.ErrDepth, []int{0, 0, 0, 0, 0, 0}},
		{"a subject within too many blocks", within(api.Sentence{Subject: free, Block: list(api.Sentence{})}, 6), ErrUnbound, []int{0, 0, 0, 0, 0, 0}},
		{"a sentence of a block", block(t, list(sentence(t, "", ""), sentence(t, "", "e.1"), sentence(t, "<F>", "")), "", ""), ErrUnbound, []int{1}},
		{"a sentence of a block within", block(t, list(sentence(t, "", ""), block(t, list(sentence(t, "", ""), sentence(t, "", ""), sentence(t, "<F>", "")), "", "")), "", ""), ErrCalls, []int{1, 2}},
		{"a variable of a sentence beside", block(t, list(sentence(t, "e.1", ""), sentence(t, "", "e.1")), "", ""), ErrUnbound, []int{1}},
		{"a variable of a block beside", block(t, list(block(t, list(sentence(t, "e.1", "")), "e.2", ""), sentence(t, "", "e.2")), "", ""), ErrUnbound, []int{1}},
		{"a variable of a block beside, within", block(t, list(block(t, list(sentence(t, "e.1", "")), "", ""), block(t, list(sentence(t, "", "e.1")), "", "")), "", ""), ErrUnbound, []int{1, 0}},
		{"a block too many conditions", block(t, list(api.Sentence{Tests: make([]api.Test, 9)}), "", ""), api.ErrCount, []int{0}},

		{"a subject without a block", api.Sentence{Subject: call, Right: free}, ErrBlock, nil},
		{"a result that is not right", api.Sentence{Right: append(slices.Clone(free), many...)}, api.ErrCount, nil},
		{"an unbound result", sentence(t, "s.1", "s.2"), ErrUnbound, nil},
		{"a variable of the own block", block(t, list(sentence(t, "e.1", "")), "", "e.1"), ErrUnbound, nil},
	}
}

func TestCodes(t *testing.T) {
	for i, e := range []api.Errno{ErrName, ErrUnbound, ErrCalls, ErrBlock} {
		if e != api.Errno(60+i) {
			t.Errorf("the code %d is %v", 60+i, e)
		}
	}
}

func TestSentence(t *testing.T) {
	for _, c := range sentenceCases(t) {
		if e := Sentence(c.s, nil); e != c.want {
			t.Errorf("%s: Sentence = %v, want %v", c.name, e, c.want)
		}
		p := program(function("G", api.Sentence{}), function("F", api.Sentence{}, api.Sentence{}, c.s))
		want := Fault{Function: 1, Path: append([]int{2}, c.path...)}
		if c.want == api.OK {
			want = Fault{}
		}
		if at, e := Program(p); e != c.want || at.Function != want.Function || !slices.Equal(at.Path, want.Path) {
			t.Errorf("%s: Program = %v, %v, want %v, %v", c.name, at, e, want, c.want)
		}
	}
}

func TestSentenceWithBoundVariables(t *testing.T) {
	s := block(t, list(sentence(t, "", "e.4")), "e.1", "e.2", "s.5", "e.3")
	for bound, want := range map[string]api.Errno{
		"":                     ErrUnbound,
		"e.2 e.3":              ErrUnbound,
		"e.2 e.4":              ErrUnbound,
		"e.3 e.4":              ErrUnbound,
		"e.2 e.3 e.4":          api.OK,
		"e.4 e.9 e.2 e.3 e.3":  api.OK,
		"e.2 e.3 s.4":          ErrUnbound,
		"e.2 e.3 e.4 e.1 s.5 ": api.OK,
	} {
		if e := Sentence(s, strings.Split(bound, " ")); e != want {
			t.Errorf("Sentence with %q = %v, want %v", bound, e, want)
		}
	}
	bound := []string{"e.2", "e.3", "e.4"}
	Sentence(s, bound[:1])
	if !slices.Equal(bound, []string{"e.2", "e.3", "e.4"}) {
		t.Errorf("the bound variables are %v now", bound)
	}
}

func TestProgram(t *testing.T) {
	ok := api.Sentence{}
	wrong := sentence(t, "", "e.1")
	functions := func(n int) (l []api.Function) {
		for i := range n {
			l = append(l, function("F"+long("x", i/26)+string(rune('a'+i%26)), ok))
		}
		return l
	}
	sentences := func(n int) []api.Function { // in blocks of 40, and the rest
		l := functions((n + 40) / 41)
		for i := range l {
			inner := min(40, n-1)
			l[i].Sentences = list(api.Sentence{Block: make([]api.Sentence, inner)})
			n -= 1 + inner
		}
		return l
	}
	for _, c := range []struct {
		name string
		p    api.Program
		at   Fault
		want api.Errno
	}{
		{"nothing", program(), Fault{}, api.OK},
		{"as many functions as may be", program(functions(150)...), Fault{}, api.OK},
		{"too many functions", program(functions(151)...), Fault{}, api.ErrCount},
		{"too many functions ahead of others", program(append([]api.Function{{Name: "1"}}, functions(150)...)...), Fault{}, api.ErrCount},
		{"as many sentences as may be", program(sentences(3000)...), Fault{}, api.OK},
		{"too many sentences", program(sentences(3001)...), Fault{}, api.ErrCount},
		{"too many sentences ahead of others", program(append([]api.Function{{Name: "1"}}, sentences(3001)...)...), Fault{}, api.ErrCount},
		{"as many sentences of a function as may be", program(function("F", make([]api.Sentence, 40)...)), Fault{}, api.OK},
		{"too many sentences of a function", program(function("G", ok), function("F", make([]api.Sentence, 41)...)), Fault{Function: 1}, api.ErrCount},
		{"no sentence", program(function("G", ok), function("F")), Fault{Function: 1}, api.ErrCount},
		{"a function behind a wrong sentence", program(function("G", wrong), function("F")), Fault{0, []int{0}}, ErrUnbound},
		{"a sentence ahead of others", program(function("F", ok, wrong, sentence(t, "<F>", ""))), Fault{0, []int{1}}, ErrUnbound},
		{"too many sentences ahead of them", program(function("F", append(list(wrong), make([]api.Sentence, 40)...)...)), Fault{}, api.ErrCount},
		{"a name", program(function("F", ok), function("1", ok)), Fault{Function: 1}, ErrName},
		{"a name ahead of its sentences", program(function("")), Fault{}, ErrName},
		{"a name with a byte that is none", program(function("a.b", ok)), Fault{}, ErrName},
		{"the longest name", program(function(long("f", 40), ok)), Fault{}, api.OK},
		{"a name too long", program(function(long("f", 41), ok)), Fault{}, ErrName},
		{"a name twice", program(function("F", ok), function("G", ok), function("F", ok)), Fault{Function: 2}, api.ErrDuplicate},
		{"a name twice ahead of sentences", program(function("F", ok), function("F")), Fault{Function: 1}, api.ErrDuplicate},
		{"a wrong name twice", program(function("F", ok), function("-", ok), function("-", ok)), Fault{Function: 1}, ErrName},
		{"sentences one by one", program(function("F", ok, wrong), function("F", ok)), Fault{0, []int{1}}, ErrUnbound},
		{"variables of another sentence", program(function("F", sentence(t, "e.1", "e.1"), wrong)), Fault{0, []int{1}}, ErrUnbound},
		{"blocks far too deep", program(function("F", within(ok, 60000))), Fault{}, api.ErrCount},
		{"blocks too deep", program(function("F", within(ok, 2000))), Fault{0, make([]int, 7)}, api.ErrDepth},
	} {
		at, e := Program(c.p)
		if e != c.want || at.Function != c.at.Function || !slices.Equal(at.Path, c.at.Path) {
			t.Errorf("%s: Program = %v, %v, want %v, %v", c.name, at, e, c.at, c.want)
		}
	}
	if e := Sentence(within(ok, 60000), nil); e != api.ErrDepth {
		t.Errorf("Sentence with blocks far too deep = %v", e)
	}
}

func TestCore(t *testing.T) {
	plain := sentence(t, "e.1", "<F e.1>")
	for _, c := range []struct {
		p    api.Program
		want bool
	}{
		{program(), true},
		{program(function("F")), true},
		{program(function("F", plain), function("F", plain)), true},
		{program(function("F", plain), function("G", plain, sentence(t, "", "", "", ""))), false},
		{program(function("F", block(t, list(plain), "", ""))), false},
		{program(function("F", api.Sentence{Subject: parsed(t, "a")})), false},
	} {
		if Core(c.p) != c.want {
			t.Errorf("Core(%v)", c.p)
		}
	}
}

func TestFind(t *testing.T) {
	p := program(function("G"), function("F"), function("F"), function(""))
	for name, want := range map[string]int{"G": 0, "F": 1, "": 3, "H": -1} {
		if i := Find(p, name); i != want {
			t.Errorf("Find(%q) = %d, want %d", name, i, want)
		}
	}
	if Find(program(), "F") != -1 {
		t.Error("Find in no program")
	}
}
