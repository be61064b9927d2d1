package desugar_test

import (
	"strconv"
	"strings"
	"testing"

	"chiasmus/api"
	"chiasmus/check"
	"chiasmus/desugar"
	"chiasmus/syntax"
	"chiasmus/term"
)

var long = strings.Repeat

func program(t testing.TB, s string) api.Program {
	t.Helper()
	p, at, e := syntax.Program(s)
	if e != api.OK {
		t.Fatalf("Program(%q) = %d, %v", s, at, e)
	}
	return p
}

// text returns the text of functions, in one line.
func text(l []api.Function) string {
	s, e := syntax.Write(syntax.Module{Functions: l})
	if e != api.OK {
		return "error " + e.Error()
	}
	return strings.Join(strings.Fields(s), " ")
}

// same reports whether functions are those of a text.
func same(t testing.TB, l []api.Function, s string) bool {
	t.Helper()
	return syntax.Equal(syntax.Module{Functions: l}, syntax.Module{Functions: program(t, s).Functions})
}

func TestCode(t *testing.T) {
	if desugar.ErrNames != 150 {
		t.Errorf("ErrNames is %d", int(desugar.ErrNames))
	}
}

// programs has programs, and what they become.
var programs = []struct{ name, from, to string }{
	{"nothing", "", ""},
	{"plain sentences", "$ENTRY F { 'a' e.1 e.2 = <F e.2>; s.1 = <G>; } G { = ; }", "$ENTRY F { 'a' e.1 e.2 = <F e.2>; s.1 = <G>; } G { = ; }"},
	{"the first example", "F { s.1, <G s.1> : A = B; s.1 = C; }",
		"F { s.1 = <F-1 (s.1) <G s.1>>; e.1 = <F-2 e.1>; } F-1 { (s.1) A = B; (e.1) e.2 = <F-2 e.1>; } F-2 { s.1 = C; }"},
	{"the second example", "F { e.1, e.1 : { A = B; }; }", "F { e.1 = <F-1 (e.1) e.1>; } F-1 { (e.1) A = B; }"},
	{"a condition, and nothing behind it", "$ENTRY F { e.x, s.x : s.y = s.y; }", ""},
	{"a condition alone", "$ENTRY F { s.x, <G s.x> : s.y = s.y e.z; } G { = ; }", ""},
	{"plain sentences ahead", "$ENTRY F { = ; e.1 A e.2 = e.1; s.x, s.x : s.y = s.y; }",
		"$ENTRY F { = ; e.1 A e.2 = e.1; s.x = <F-1 (s.x) s.x>; } F-1 { (s.x) s.y = s.y; }"},
	{"two conditions", "F { s.1 e.2, <A s.1> : e.3, <B e.3> : s.1 e.4 = e.4; }",
		"F { s.1 e.2 = <F-1 (s.1 e.2) <A s.1>>; } F-1 { (s.1 e.2) e.3 = <F-2 (s.1 e.2) (e.3) <B e.3>>; } F-2 { (s.1 e.2) (e.3) s.1 e.4 = e.4; }"},
	{"three conditions and a rest", "F { s.1, a : s.2, b : s.3, c : s.4 = s.4; t.1 = t.1; e.1 = ; }",
		"F { s.1 = <F-1 (s.1) a>; e.1 = <F-4 e.1>; } " +
			"F-1 { (s.1) s.2 = <F-2 (s.1) (s.2) b>; (e.1) e.2 = <F-4 e.1>; } " +
			"F-2 { (s.1) (s.2) s.3 = <F-3 (s.1) (s.2) (s.3) c>; (e.1) t.1 e.2 = <F-4 e.1>; } " +
			"F-3 { (s.1) (s.2) (s.3) s.4 = s.4; (e.1) t.1 t.2 e.2 = <F-4 e.1>; } " +
			"F-4 { t.1 = t.1; e.1 = ; }"},
	{"a condition and a block", "F { s.1, a : s.2, s.2 : { s.1 = x; b = y; }; e.1 = e.1; }",
		"F { s.1 = <F-1 (s.1) a>; e.1 = <F-3 e.1>; } " +
			"F-1 { (s.1) s.2 = <F-2 (s.1) (s.2) s.2>; (e.1) e.2 = <F-3 e.1>; } " +
			"F-2 { (s.1) (s.2) s.1 = x; (s.1) (s.2) b = y; } " +
			"F-3 { e.1 = e.1; }"},
	{"a block and a rest", "F { s.1, <G> : { = x; }; e.1 = e.1; }",
		"F { s.1 = <F-1 (s.1) <G>>; e.1 = <F-2 e.1>; } F-1 { (s.1) = x; } F-2 { e.1 = e.1; }"},
	{"blocks in blocks", "F { s.1 e.2, e.2 : { s.3 e.4, e.4 : { s.5 = s.1 s.3 s.5; }; e.6 = no; }; }",
		"F { s.1 e.2 = <F-1 (s.1 e.2) e.2>; } " +
			"F-1 { (s.1 e.2) s.3 e.4 = <F-2 (s.1 e.2) (s.3 e.4) e.4>; e.1 = <F-3 e.1>; } " +
			"F-2 { (s.1 e.2) (s.3 e.4) s.5 = s.1 s.3 s.5; } " +
			"F-3 { (s.1 e.2) e.6 = no; }"},
	{"conditions in a block", "F { s.1, <G s.1> : { a = x; s.2, s.2 : b, c : d = y; e.3 = z; }; = n; } G { e.1 = e.1; }",
		"F { s.1 = <F-1 (s.1) <G s.1>>; e.1 = <F-2 e.1>; } " +
			"F-1 { (s.1) a = x; (s.1) s.2 = <F-3 (s.1) (s.2) s.2>; e.1 = <F-5 e.1>; } " +
			"F-3 { (s.1) (s.2) b = <F-4 (s.1) (s.2) (b) c>; t.1 (e.1) e.2 = <F-5 t.1 e.1>; } " +
			"F-4 { (s.1) (s.2) (b) d = y; t.1 (e.1) t.2 e.2 = <F-5 t.1 e.1>; } " +
			"F-5 { (s.1) e.3 = z; } " +
			"F-2 { = n; } G { e.1 = e.1; }"},
	{"conditions in the rest", "F { a, b : c = d; e, f : g = h; i = j; }",
		"F { a = <F-1 (a) b>; e.1 = <F-2 e.1>; } F-1 { (a) c = d; (e.1) e.2 = <F-2 e.1>; } " +
			"F-2 { e = <F-3 (e) f>; e.1 = <F-4 e.1>; } F-3 { (e) g = h; (e.1) e.2 = <F-4 e.1>; } F-4 { i = j; }"},
	{"several functions", "F { a, b : c = d; } $ENTRY G { = ; } $ENTRY H { a, b : { c = d; }; }",
		"F { a = <F-1 (a) b>; } F-1 { (a) c = d; } $ENTRY G { = ; } $ENTRY H { a = <H-1 (a) b>; } H-1 { (a) c = d; }"},
	{"names that the program has", "F { a, b : c, d : e = f; g = <F-3>; } F-1 { = ; } F-3 { = ; } G { = ; }",
		"F { a = <F-2 (a) b>; e.1 = <F-5 e.1>; } F-2 { (a) c = <F-4 (a) (c) d>; (e.1) e.2 = <F-5 e.1>; } F-4 { (a) (c) e = f; (e.1) t.1 e.2 = <F-5 e.1>; } " +
			"F-5 { g = <F-3>; } F-1 { = ; } F-3 { = ; } G { = ; }"},
	{"names that the program calls", "F { a, <F-1> : { e, <G-1> : f = <F-4>; }; } G { a, b : c = ; = <F-2>; }",
		"F { a = <F-3 (a) <F-1>>; } F-3 { (a) e = <F-5 (a) (e) <G-1>>; } F-5 { (a) (e) f = <F-4>; } " +
			"G { a = <G-2 (a) b>; e.1 = <G-3 e.1>; } G-2 { (a) c = ; (e.1) e.2 = <G-3 e.1>; } G-3 { = <F-2>; }"},
	{"names like new ones", "F { a, b : c = ; } F-2 { a, b : c = ; } F-1-1 { = ; } F-01 { = ; }",
		"F { a = <F-1 (a) b>; } F-1 { (a) c = ; } F-2 { a = <F-2-1 (a) b>; } F-2-1 { (a) c = ; } F-1-1 { = ; } F-01 { = ; }"},
	{"groups and bound variables", "F { (e.1 s.2) t.3, t.3 : (e.4 s.2) = e.1 e.4; }",
		"F { (e.1 s.2) t.3 = <F-1 ((e.1 s.2) t.3) t.3>; } F-1 { ((e.1 s.2) t.3) (e.4 s.2) = e.1 e.4; }"},
	{"a pattern that is strict where variables are bound", "F { e.1, e.1 : e.2, x : e.1 e.3 e.2 = e.3; }",
		"F { e.1 = <F-1 (e.1) e.1>; } F-1 { (e.1) e.2 = <F-2 (e.1) (e.2) x>; } F-2 { (e.1) (e.2) e.1 e.3 e.2 = e.3; }"},
	{"a plain sentence of a block that is not strict", "F { e.1, e.1 : { e.2 a e.3 = e.2; }; }",
		"F { e.1 = <F-1 (e.1) e.1>; } F-1 { (e.1) e.2 a e.3 = e.2; }"},
	{"nothing at all", "F { , : = ; }", "F { = <F-1 ()>; } F-1 { () = ; }"},
}

func TestProgram(t *testing.T) {
	for _, c := range programs {
		if c.to == "" && c.from != "" { // programs with errors
			if q, e := desugar.Program(program(t, c.from)); e != check.ErrUnbound || len(q.Functions) != 0 {
				t.Errorf("%s: Program = %s, %v", c.name, text(q.Functions), e)
			}
			continue
		}
		p := program(t, c.from)
		q, e := desugar.Program(p)
		if e != api.OK || !same(t, q.Functions, c.to) {
			t.Errorf("%s: Program = %s, %v, want %s", c.name, text(q.Functions), e, c.to)
		}
		if !same(t, p.Functions, c.from) {
			t.Errorf("%s: the program has changed", c.name)
		}
		checkParts(t, c.name, p, q)
	}
}

// checkParts asks for the functions of the result one by one.
func checkParts(t *testing.T, name string, p, q api.Program) {
	t.Helper()
	var all []api.Function
	for i, f := range p.Functions {
		part, e := desugar.Function(p, i)
		if e != api.OK || part[0].Name != f.Name || part[0].Entry != f.Entry || desugar.Needed(f) != (len(part) > 1) {
			t.Errorf("%s: Function %d = %s, %v", name, i, text(part), e)
		}
		for k, made := range part {
			if origin, e := desugar.Origin(p, made.Name); origin != f.Name || e != api.OK || k > 0 && made.Entry {
				t.Errorf("%s: Origin of %s = %s, %v", name, made.Name, origin, e)
			}
		}
		all = append(all, part...)
	}
	if !syntax.Equal(syntax.Module{Functions: all}, syntax.Module{Functions: q.Functions}) {
		t.Errorf("%s: the parts are %s", name, text(all))
	}
	for _, i := range []int{-1, len(p.Functions), 1 << 40} {
		if l, e := desugar.Function(p, i); e != api.ErrRange || len(l) != 0 {
			t.Errorf("%s: Function %d = %s, %v", name, i, text(l), e)
		}
	}
	for _, name := range []string{"", "X", "F-99", "F-", "F-0"} {
		if s, e := desugar.Origin(p, name); e != api.ErrMissing || s != "" {
			t.Errorf("Origin of %q = %q, %v", name, s, e)
		}
	}
}

func TestNeeded(t *testing.T) {
	tests := api.Sentence{Tests: []api.Test{{}}}
	block := api.Sentence{Block: []api.Sentence{{}}}
	subject := api.Sentence{Subject: term.Chars("a")}
	for _, c := range []struct {
		name string
		l    []api.Sentence
		want bool
	}{
		{"none", nil, false},
		{"plain ones", []api.Sentence{{}, {}}, false},
		{"a condition", []api.Sentence{tests}, true},
		{"a block", []api.Sentence{block}, true},
		{"a condition at the end", []api.Sentence{{}, tests}, true},
		{"a subject without a block", []api.Sentence{subject}, false},
	} {
		if got := desugar.Needed(api.Function{Sentences: c.l}); got != c.want {
			t.Errorf("%s: Needed = %v", c.name, got)
		}
	}
}

// many returns so many functions with conditions.
func many(n int) string {
	var b strings.Builder
	for i := range n {
		b.WriteString("F" + strconv.Itoa(i) + " { a, b : c = ; }\n")
	}
	return b.String()
}

func TestErrors(t *testing.T) {
	name := func(n int) string { return "N" + long("x", n-1) }
	deep := long("(", 98) + long(")", 98)
	terms := func(n int) string { return "'" + long("a", n) + "'" }
	for _, c := range []struct {
		name, src string
		want      api.Errno
	}{
		{"a variable that is not bound", "F { e.1 a e.2, b : c = ; = s.x; }", check.ErrUnbound},
		{"a pattern with a choice", "F { e.1 a e.2, b : c = ; }", api.ErrStrict},
		{"a pattern with a repeated variable", "F { e.1 (e.1), b : c = ; }", api.ErrStrict},
		{"a t-variable that is repeated", "F { t.1 t.1, b : c = ; }", api.ErrStrict},
		{"an s-variable that is repeated", "F { s.1 s.1, b : c = ; }", api.OK},
		{"a condition with a choice", "F { e.1, e.1 : e.2 a e.3 = ; }", api.ErrStrict},
		{"a second condition with a choice", "F { e.1, e.1 : a, b : e.2 e.3 = ; }", api.ErrStrict},
		{"a choice that a condition has bound", "F { e.1, e.1 : e.2, b : e.2 e.3 e.1 = ; }", api.OK},
		{"a pattern ahead of a block with a choice", "F { e.1 a e.2, b : { = ; }; }", api.ErrStrict},
		{"a block with a choice", "F { e.1, b : { e.2 a e.3, c : d = ; }; }", api.ErrStrict},
		{"a block in a block with a choice", "F { e.1, b : { s.2, c : { e.3 a e.4, d : e = ; }; }; }", api.ErrStrict},
		{"a condition of a block with a choice", "F { e.1, b : { e.2, c : { = ; }; = ; e.3, d : e.4 e.5 = ; }; }", api.ErrStrict},
		{"a block where variables are bound", "F { e.1, b : { e.2 e.1, c : e.1 e.2 e.3 = ; }; }", api.OK},
		{"variables of another block's sentence", "F { e.1, b : { e.2, c : e.3 = ; e.3 e.2, d : e = ; }; }", api.ErrStrict},
		{"a choice in a second function", "F { e.1 e.2 = ; } G { e.1, a : b = ; e.1 e.2, b : c = ; }", api.ErrStrict},
		{"plain sentences with choices", "F { e.1 e.2 = ; e.1, a : b = ; e.1 e.1 = ; }", api.OK},
		{"a choice, and a long name", name(39) + " { e.1 e.2, b : c = ; }", api.ErrStrict},
		{"a long name", name(38) + " { e.1, b : c = ; }", api.OK},
		{"a name that is too long", name(39) + " { e.1, b : c = ; }", desugar.ErrNames},
		{"a long name without conditions", name(40) + " { e.1 = ; }", api.OK},
		{"the ninth name", name(38) + " { a, 1 : 2, 3 : 4, 5 : 6, 7 : 8, 9 : 10, 11 : 12, 13 : 14, 15 : 16 = ; = ; }", api.OK},
		{"the tenth name", name(38) + " { a, 1 : 2, 3 : 4, 5 : 6, 7 : 8, 9 : 10, 11 : 12, 13 : 14, 15 : 16 = ; e.1, b : { = ; }; }", desugar.ErrNames},
		{"a long name, and too many functions", many(149) + name(39) + " { e.1, b : c = ; }", desugar.ErrNames},
		{"as many functions as may be", many(75), api.OK},
		{"too many functions", many(76), api.ErrCount},
		{"a pattern that becomes as large as may be", "F { " + terms(1999) + ", a : " + terms(2000) + " = ; }", api.OK},
		{"a pattern that becomes too large", "F { " + terms(2000) + ", a : " + terms(2000) + " = ; }", api.ErrCount},
		{"a pattern that becomes as deep as may be", "F { " + deep + ", a : b = ; }", api.OK},
		{"a pattern that becomes too deep", "F { (" + deep + "), a : b = ; }", api.ErrDepth},
	} {
		p := program(t, c.src)
		q, e := desugar.Program(p)
		if e != c.want || e != api.OK && len(q.Functions) != 0 {
			t.Errorf("%s: Program = %v, want %v", c.name, e, c.want)
		}
		if e == api.OK {
			checkParts(t, c.name, p, q)
			continue
		}
		if l, e := desugar.Function(p, -1); e != c.want || len(l) != 0 {
			t.Errorf("%s: Function = %v, want %v", c.name, e, c.want)
		}
		if s, e := desugar.Origin(p, "X"); e != c.want || s != "" {
			t.Errorf("%s: Origin = %v, want %v", c.name, e, c.want)
		}
	}
	if _, e := desugar.Program(api.Program{Functions: []api.Function{{Name: "1"}}}); e != check.ErrName {
		t.Errorf("Program = %v", e)
	}
}

// TestMemory changes a result, and what shares memory with it.
func TestMemory(t *testing.T) {
	const src = "F { (a), b : c = (d); (e) = (f); } G { (a) = (b); }"
	p := program(t, src)
	q, _ := desugar.Program(p)
	for _, f := range q.Functions {
		for i, s := range f.Sentences {
			for _, l := range [][]api.Term{s.Left, s.Right} {
				for k := range l {
					l[k].Text = "X"
					for n := range l[k].Kids {
						l[k].Kids[n].Text = "Y"
					}
				}
			}
			f.Sentences[i] = api.Sentence{}
		}
	}
	if !same(t, p.Functions, src) {
		t.Errorf("the program has become %s", text(p.Functions))
	}
}

// TestLargest has as many sentences and conditions as may be.
func TestLargest(t *testing.T) {
	s := "e.1" + long(", a : b", 8) + " = ; "
	for _, n := range []int{1, 16, 40} {
		q, e := desugar.Program(program(t, "F { "+long(s, n)+"}"))
		want := api.OK
		if 9*n > 150 {
			want = api.ErrCount
		}
		if e != want || e == api.OK && len(q.Functions) != 9*n {
			t.Errorf("%d sentences: %d functions, %v", n, len(q.Functions), e)
		}
	}
	plain := long("a = ; ", 39)
	if q, e := desugar.Program(program(t, "F { "+plain+s+"}")); e != api.OK || len(q.Functions[0].Sentences) != 40 {
		t.Errorf("Program = %d functions, %v", len(q.Functions), e)
	}
	if q, e := desugar.Program(program(t, "F { "+plain[6:]+s+"= ; }")); e != api.OK || len(q.Functions[0].Sentences) != 40 {
		t.Errorf("Program = %d functions, %v", len(q.Functions), e)
	}
	blocks := "e.1" + long(", a : { e.1", 6) + " = ; " + long("}; ", 6)
	if q, e := desugar.Program(program(t, "F { "+blocks+"}")); e != api.OK || len(q.Functions) != 7 {
		t.Errorf("Program = %d functions, %v", len(q.Functions), e)
	}
}
