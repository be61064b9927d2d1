package syntax

import (
	"math"
	"math/rand"
	"strings"
	"testing"

	"chiasmus/api"
	"chiasmus/term"
)

func TestWrite(t *testing.T) {
	for s, want := range map[string]string{
		"":                                       "",
		"$EXTERN A;":                             "$EXTERN A;\n",
		"$EXTERN A,B;$EXTERN C;":                 "$EXTERN A, B, C;\n",
		"F{=}":                                   "F {\n  =;\n}\n",
		"$ENTRY F{a=;=b}":                        "$ENTRY F {\n  a =;\n  = b;\n}\n",
		"F{=}$ENTRY G{=}":                        "F {\n  =;\n}\n\n$ENTRY G {\n  =;\n}\n",
		"F{=}$EXTERN A;":                         "$EXTERN A;\n\nF {\n  =;\n}\n",
		`F{'a''b'"x y""z"(1())=<G(s.1)>(<H>)}`:   "F {\n  'ab' \"x y\" z (1 ()) = <G (s.1)> (<H>);\n}\n",
		"F{e.1,e.1:t.2,:=e.1}":                   "F {\n  e.1 , e.1 : t.2 , : = e.1;\n}\n",
		"F{e.1,A:B,<G e.1>:{C=;D,E:{=F;=};=};=}": "F {\n  e.1 , A : B , <G e.1> : {\n    C =;\n    D , E : {\n      = F;\n      =;\n    };\n    =;\n  };\n  =;\n}\n",
		`F{'\n\x00'="\\"}`:                       "F {\n  '\\n\\x00' = \"\\\\\";\n}\n",
	} {
		m := read(t, s)
		if got, e := Write(m); got != want || e != api.OK {
			t.Errorf("Write of %q = %q, %v, want %q", s, got, e, want)
		}
		if got, e := Wrap(m, math.MaxInt); got != want || e != api.OK {
			t.Errorf("Wrap of %q = %q, %v, want %q", s, got, e, want)
		}
	}
}

func TestWrap(t *testing.T) {
	for _, c := range []struct {
		width   int
		s, want string
	}{
		{16, "F { s.1 e.2 = <F e.2> 'a'; = ; }", "F {\n  s.1 e.2 = <F\n      e.2> 'a';\n  =;\n}\n"},
		{8, "F { a b = c }", "F {\n  a b =\n      c;\n}\n"},
		{9, "F { a b = c }", "F {\n  a b =\n      c;\n}\n"},
		{10, "F { a b = c }", "F {\n  a b = c;\n}\n"},
		{7, "F { a b = c }", "F {\n  a b =\n      c;\n}\n"},
		{6, "F { a b = c }", "F {\n  a b\n      =\n      c;\n}\n"},
		{0, "F { a b = (c d) }", "F {\n  a\n      b\n      =\n      (c\n      d);\n}\n"},
		{math.MinInt, "F { a = }", "F {\n  a\n      =;\n}\n"},
		{6, "F { a = }", "F {\n  a =;\n}\n"},
		{5, "F { a = }", "F {\n  a\n      =;\n}\n"},
		{13, "$EXTERN Aaaaa, Bbbbb; $ENTRY Looooong { a , b : { c c c = d d; } }",
			"$EXTERN Aaaaa, Bbbbb;\n\n$ENTRY Looooong {\n  a , b : {\n    c c c = d\n        d;\n  };\n}\n"},
		{10, "F { a , b : { = } }", "F {\n  a , b :\n      {\n    =;\n  };\n}\n"},
		{11, "F { a , b : { = } }", "F {\n  a , b : {\n    =;\n  };\n}\n"},
		{9, "F { aaaaa b cc = }", "F {\n  aaaaa b\n      cc\n      =;\n}\n"},
		{12, "F { aaaaaaaa bb ccc d = }", "F {\n  aaaaaaaa\n      bb ccc\n      d =;\n}\n"},
		{11, "F { aaaaaaaa bb ccc d = }", "F {\n  aaaaaaaa\n      bb\n      ccc d\n      =;\n}\n"},
		{1, "F { 'a b c' = }", "F {\n  'a b c'\n      =;\n}\n"},
		{14, "F { aaaa bbb cccc dd = }", "F {\n  aaaa bbb\n      cccc dd\n      =;\n}\n"},
	} {
		m := read(t, c.s)
		got, e := Wrap(m, c.width)
		if got != c.want || e != api.OK {
			t.Errorf("Wrap(%q, %d) = %q, %v, want %q", c.s, c.width, got, e, c.want)
		}
	}
}

func TestSentenceText(t *testing.T) {
	for _, c := range []struct {
		s    api.Sentence
		want string
	}{
		{api.Sentence{}, "="},
		{sentenceOf(t, "a (b (c) <d>)", ""), ""},
		{sentenceOf(t, "'ab' 'c' () (()) ((a) 'b' 1)", "<F> <F a <G b>> (<F> <G>)"), "'abc' () (()) ((a) 'b' 1) = <F> <F a <G b>> (<F> <G>)"},
		{api.Sentence{Block: []api.Sentence{{}, {}}}, ", : { =; = }"},
		{api.Sentence{Left: parsed(t, "a"), Tests: []api.Test{{}}, Subject: parsed(t, "b"), Block: []api.Sentence{{Block: []api.Sentence{{}}}, sentenceOf(t, "c", "d")}},
			"a , : , b : { , : { = }; c = d }"},
	} {
		want := api.OK
		if c.want == "" {
			want = api.ErrForm
		}
		got, e := Sentence(c.s)
		if got != c.want || e != want {
			t.Errorf("Sentence(%v) = %q, %v, want %q", c.s, got, e, c.want)
		}
		if back, _, e := ReadSentence(got); want == api.OK && (e != api.OK || !equalSentences(back, c.s)) {
			t.Errorf("ReadSentence(%q) = %v, %v", got, back, e)
		}
	}
}

// wordsOf returns so many words of so many bytes.
func wordsOf(n, length int) []api.Term {
	var l []api.Term
	for range n {
		l = append(l, api.Term{Kind: api.Word, Text: long("w", length)})
	}
	return l
}

func TestTextLimits(t *testing.T) {
	// "=" and 999 words with a space ahead have 39961 bytes.
	s := api.Sentence{Right: append(wordsOf(999, 39), wordsOf(1, 38)...)}
	if text, e := Sentence(s); len(text) != 40000 || e != api.OK {
		t.Errorf("Sentence of as much as may be = %d bytes, %v", len(text), e)
	}
	s.Right[0].Text += "w"
	if text, e := Sentence(s); text != "" || e != api.ErrLarge {
		t.Errorf("Sentence of too much = %d bytes, %v", len(text), e)
	}
	// "F {\n", "  =", the words, ";\n" and "}\n"
	m := Module{Functions: []api.Function{{Name: "F", Sentences: []api.Sentence{{Right: append(wordsOf(999, 39), wordsOf(1, 28)...)}}}}}
	if text, e := Write(m); len(text) != 40000 || e != api.OK {
		t.Errorf("Write of as much as may be = %d bytes, %v", len(text), e)
	}
	if text, e := Wrap(m, 100); text != "" || e != api.ErrLarge {
		t.Errorf("Wrap of too much = %d bytes, %v", len(text), e)
	}
	m.Functions[0].Sentences[0].Right[0].Text += "w"
	if text, e := Write(m); text != "" || e != api.ErrLarge {
		t.Errorf("Write of too much = %d bytes, %v", len(text), e)
	}
}

// within returns a sentence within so many blocks.
func within(s api.Sentence, blocks int) api.Sentence {
	for range blocks {
		s = api.Sentence{Block: []api.Sentence{s}}
	}
	return s
}

func TestForm(t *testing.T) {
	call, variable := parsed(t, "<F>"), parsed(t, "e.1")
	wrong, many := []api.Term{{Kind: api.Word}}, term.Chars(long("a", 4001))
	deep := []api.Term{}
	for range 101 {
		deep = []api.Term{{Kind: api.Group, Kids: deep}}
	}
	right := []api.Sentence{{}}
	for _, c := range []struct {
		name string
		s    api.Sentence
		want api.Errno
	}{
		{"nothing", api.Sentence{}, api.OK},
		{"all", api.Sentence{Left: variable, Tests: []api.Test{{Expr: call, Pattern: variable}}, Right: call}, api.OK},
		{"unbound variables", api.Sentence{Right: variable}, api.OK},
		{"many conditions", api.Sentence{Tests: make([]api.Test, 100)}, api.OK},
		{"a block", api.Sentence{Left: variable, Subject: call, Block: right}, api.OK},
		{"a block without a subject", api.Sentence{Block: right}, api.OK},
		{"as many blocks as may be", within(api.Sentence{}, 6), api.OK},
		{"a call in the pattern", api.Sentence{Left: call}, api.ErrForm},
		{"a pattern that is not right", api.Sentence{Left: wrong}, api.ErrForm},
		{"a pattern with too many terms", api.Sentence{Left: many}, api.ErrCount},
		{"a pattern too deep", api.Sentence{Left: deep}, api.ErrDepth},
		{"a condition", api.Sentence{Tests: []api.Test{{Expr: wrong}}}, api.ErrForm},
		{"a condition with too many terms", api.Sentence{Tests: []api.Test{{}, {Expr: many}}}, api.ErrCount},
		{"a condition's pattern", api.Sentence{Tests: []api.Test{{Pattern: deep}}}, api.ErrDepth},
		{"a call in a condition's pattern", api.Sentence{Tests: []api.Test{{Pattern: call}}}, api.ErrForm},
		{"a subject without a block", api.Sentence{Subject: call}, api.ErrForm},
		{"a subject ahead of the result", api.Sentence{Subject: call, Right: many}, api.ErrForm},
		{"a result", api.Sentence{Right: deep}, api.ErrDepth},
		{"a result that is not right", api.Sentence{Right: wrong}, api.ErrForm},
		{"a result and a block", api.Sentence{Right: variable, Block: right}, api.ErrForm},
		{"a result ahead of the subject", api.Sentence{Right: variable, Subject: many, Block: right}, api.ErrForm},
		{"a subject with too many terms", api.Sentence{Subject: many, Block: right}, api.ErrCount},
		{"a subject ahead of its block", api.Sentence{Subject: many, Block: []api.Sentence{{Left: wrong}}}, api.ErrCount},
		{"a sentence of a block", api.Sentence{Block: []api.Sentence{{}, {Left: many}}}, api.ErrCount},
		{"blocks too deep", within(api.Sentence{}, 7), api.ErrDepth},
		{"blocks far too deep", within(api.Sentence{}, 50000), api.ErrDepth},
		{"blocks too deep ahead of their subject", within(api.Sentence{Subject: wrong, Block: right}, 6), api.ErrDepth},
		{"a result ahead of blocks too deep", within(api.Sentence{Right: variable, Block: right}, 6), api.ErrForm},
		{"a pattern ahead of conditions", api.Sentence{Left: many, Tests: []api.Test{{Expr: wrong}}}, api.ErrCount},
		{"conditions one by one", api.Sentence{Tests: []api.Test{{Pattern: many}, {Expr: wrong}}}, api.ErrCount},
		{"conditions ahead of the result", api.Sentence{Tests: []api.Test{{Expr: many}}, Right: wrong}, api.ErrCount},
		{"conditions ahead of the subject", api.Sentence{Tests: []api.Test{{Expr: many}}, Subject: wrong}, api.ErrCount},
	} {
		m := Module{Functions: []api.Function{{Name: "F", Sentences: []api.Sentence{{}, c.s}}}}
		if e := Form(m); e != c.want {
			t.Errorf("%s: Form = %v, want %v", c.name, e, c.want)
		}
		text, e := Sentence(c.s)
		if e != c.want || (e == api.OK) != (text != "") {
			t.Errorf("%s: Sentence = %q, %v, want %v", c.name, text, e, c.want)
		}
		if text, e := Write(m); e != c.want || (e == api.OK) != (text != "") {
			t.Errorf("%s: Write = %q, %v, want %v", c.name, text, e, c.want)
		}
	}
}

func TestFormOfNames(t *testing.T) {
	right := []api.Sentence{{}}
	many := []api.Sentence{{Left: term.Chars(long("a", 4001))}}
	for _, c := range []struct {
		name string
		m    Module
		want api.Errno
	}{
		{"nothing", Module{}, api.OK},
		{"the longest names", Module{Externs: []string{long("e", 40)}, Functions: []api.Function{{Name: long("f", 40), Sentences: right}}}, api.OK},
		{"equal names", Module{Externs: []string{"F", "F"}, Functions: []api.Function{{Name: "F", Sentences: right}, {Name: "F", Sentences: right}}}, api.OK},
		{"an external name that is none", Module{Externs: []string{"A", "1"}}, api.ErrForm},
		{"an external name too long", Module{Externs: []string{long("e", 41)}}, api.ErrForm},
		{"an empty external name", Module{Externs: []string{""}}, api.ErrForm},
		{"an external name ahead of functions", Module{Externs: []string{"a b"}, Functions: []api.Function{{Name: "F", Sentences: many}}}, api.ErrForm},
		{"a name that is none", Module{Functions: []api.Function{{Name: "a.b", Sentences: right}}}, api.ErrForm},
		{"a name too long", Module{Functions: []api.Function{{Name: long("f", 41), Sentences: right}}}, api.ErrForm},
		{"a name ahead of sentences", Module{Functions: []api.Function{{Name: "", Sentences: many}}}, api.ErrForm},
		{"no sentence", Module{Functions: []api.Function{{Name: "F"}}}, api.ErrForm},
		{"no sentence ahead of a function", Module{Functions: []api.Function{{Name: "F"}, {Name: "G", Sentences: many}}}, api.ErrForm},
		{"a function ahead of no sentence", Module{Functions: []api.Function{{Name: "G", Sentences: many}, {Name: "F"}}}, api.ErrCount},
		{"many functions", Module{Functions: func() (l []api.Function) {
			for range 500 {
				l = append(l, api.Function{Name: "F", Sentences: make([]api.Sentence, 60)})
			}
			return l
		}()}, api.OK},
	} {
		if e := Form(c.m); e != c.want {
			t.Errorf("%s: Form = %v, want %v", c.name, e, c.want)
		}
		text, e := Write(c.m)
		if c.want == api.OK && c.name == "many functions" {
			if e != api.ErrLarge || text != "" {
				t.Errorf("%s: Write = %v", c.name, e)
			}
			continue
		}
		if e != c.want || e != api.OK && text != "" {
			t.Errorf("%s: Write = %q, %v, want %v", c.name, text, e, c.want)
		}
	}
}

// maker makes right modules by chance.
type maker struct{ *rand.Rand }

func (g maker) expression(last, depth int) []api.Term {
	var l []api.Term
	for range g.Intn(4) {
		kind := 1 + g.Intn(last)
		u := api.Term{Kind: kind}
		switch kind {
		case api.Char:
			u.Text = string([]byte{byte(g.Intn(256))})
		case api.Word:
			u.Text = []string{"a", "F", "s", "x y", `\`, `"`, "1", "*", "/*"}[g.Intn(9)]
		case api.Number:
			u.Text = []string{"0", "-1", "12"}[g.Intn(3)]
		case api.SVar, api.TVar, api.EVar:
			u.Text = []string{"1", "x"}[g.Intn(2)]
		case api.Call:
			u.Text = []string{"F", "g-1"}[g.Intn(2)]
		}
		if kind == api.Group || kind == api.Call {
			if depth == 0 {
				continue
			}
			u.Kids = g.expression(last, depth-1)
		}
		l = append(l, u)
	}
	return l
}

func (g maker) sentences(blocks int) []api.Sentence {
	var l []api.Sentence
	for range 1 + g.Intn(3) {
		s := api.Sentence{Left: g.expression(api.EVar, 2)}
		for range g.Intn(3) {
			s.Tests = append(s.Tests, api.Test{Expr: g.expression(api.Call, 2), Pattern: g.expression(api.EVar, 2)})
		}
		if blocks > 0 && g.Intn(3) == 0 {
			s.Subject = g.expression(api.Call, 2)
			s.Block = g.sentences(blocks - 1)
		} else {
			s.Right = g.expression(api.Call, 3)
		}
		l = append(l, s)
	}
	return l
}

func (g maker) module() Module {
	var m Module
	for range g.Intn(3) {
		m.Externs = append(m.Externs, []string{"A", "b_1"}[g.Intn(2)])
	}
	for range g.Intn(3) {
		m.Functions = append(m.Functions, api.Function{Name: []string{"F", "G"}[g.Intn(2)], Entry: g.Intn(2) == 0, Sentences: g.sentences(3)})
	}
	return m
}

func TestReadOfWrite(t *testing.T) {
	g := maker{rand.New(rand.NewSource(3))}
	for range 1000 {
		m := g.module()
		text, e := Write(m)
		if e != api.OK {
			t.Fatalf("Write(%v) = %v", m, e)
		}
		if !Equal(read(t, text), m) {
			t.Fatalf("Read(%q) is not %v", text, m)
		}
		for _, width := range []int{-1, 0, 5, 10, 20, 40, 80} {
			wrapped, e := Wrap(m, width)
			if e != api.OK || !Equal(read(t, wrapped), m) {
				t.Fatalf("Wrap(%q, %d) = %q, %v", text, width, wrapped, e)
			}
			if strings.Join(strings.Fields(wrapped), " ") != strings.Join(strings.Fields(text), " ") {
				t.Fatalf("Wrap(%q, %d) = %q has other words", text, width, wrapped)
			}
		}
		for _, f := range m.Functions {
			for _, s := range f.Sentences {
				line, e := Sentence(s)
				back, _, e2 := ReadSentence(line)
				if e != api.OK || e2 != api.OK || !equalSentences(back, s) || strings.Contains(line, "\n") {
					t.Fatalf("ReadSentence(%q) = %v, %v", line, back, e2)
				}
			}
		}
	}
}

func TestWideLines(t *testing.T) {
	g := maker{rand.New(rand.NewSource(4))}
	for range 1000 {
		m := g.module()
		width := g.Intn(60) - 5
		text, _ := Wrap(m, width)
		for _, line := range strings.Split(text, "\n") {
			if !strings.HasPrefix(line, "  ") || strings.ContainsAny(line, `'"`) {
				continue
			}
			if len(line) > width && len(strings.Fields(line)) > 1 {
				t.Fatalf("Wrap with %d has the line %q", width, line)
			}
		}
	}
}
