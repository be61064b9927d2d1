package meta_test

import (
	"math"
	"slices"
	"strings"
	"testing"

	"chiasmus/api"
	"chiasmus/check"
	"chiasmus/meta"
	"chiasmus/syntax"
	"chiasmus/term"
)

var long = strings.Repeat

func parsed(t testing.TB, s string) []api.Term {
	t.Helper()
	l, at, e := term.Parse(s)
	if e != api.OK {
		t.Fatalf("Parse(%q) = %d, %v", s, at, e)
	}
	return l
}

func text(l []api.Term) string {
	s, e := term.Text(l)
	if e != api.OK {
		return "error " + e.Error()
	}
	return s
}

// nested returns groups within each other, around an expression.
func nested(depth int, l ...api.Term) []api.Term {
	for range depth {
		l = []api.Term{{Kind: api.Group, Kids: l}}
	}
	return l
}

func chars(n int) []api.Term { return term.Chars(long("a", n)) }

func stars(n int) []api.Term { return term.Chars(long("*", n)) }

var (
	bad  = []api.Term{{Kind: api.Number, Text: "01"}}
	none = []api.Term{{Kind: api.Char, Text: "*"}}
)

func TestCodes(t *testing.T) {
	if meta.ErrMeta != 110 || meta.MaxLevels != 10 {
		t.Errorf("ErrMeta is %d, MaxLevels %d", int(meta.ErrMeta), meta.MaxLevels)
	}
}

// pairs are expressions and their metacode.
var pairs = []struct{ e, v string }{
	{"", ""},
	{"'a' W 3 \"x y\" -7", "'a' W 3 \"x y\" -7"},
	{"'*'", "'*V'"},
	{"'**a'", "'*V*Va'"},
	{"\"*\" W", "\"*\" W"},
	{"V S 'VSTE'", "V S 'VSTE'"},
	{"()", "()"},
	{"(('*') 'a')", "(('*V') 'a')"},
	{"s.x", "'*S' x"},
	{"t.1", "'*T' \"1\""},
	{"e.Ab9", "'*E' Ab9"},
	{"s.1 s.1", "'*S' \"1\" '*S' \"1\""},
	{"<F>", "'*' (F)"},
	{"<a-b_1 'c'>", "'*' (a-b_1 'c')"},
	{"A s.x <F ('*')>", "A '*S' x '*' (F ('*V'))"},
	{"<F <G e.1> (t.2)> 'b'", "'*' (F '*' (G '*E' \"1\") ('*T' \"2\")) 'b'"},
	{"'*' ()", "'*V' ()"},
	{"'*S' x", "'*VS' x"},
	{"'*' (F)", "'*V' (F)"},
}

func TestUpAndDn(t *testing.T) {
	for _, c := range pairs {
		if v, e := meta.Up(parsed(t, c.e)); text(v) != c.v || e != api.OK {
			t.Errorf("Up(%s) = %s, %v, want %s", c.e, text(v), e, c.v)
		}
		if l, e := meta.Dn(parsed(t, c.v)); text(l) != c.e || e != api.OK {
			t.Errorf("Dn(%s) = %s, %v, want %s", c.v, text(l), e, c.e)
		}
	}
}

func TestUpErrors(t *testing.T) {
	variables := slices.Repeat(parsed(t, "s.1"), 1334)
	for _, c := range []struct {
		name string
		e    []api.Term
		want api.Errno
	}{
		{"an expression that is none", bad, api.ErrForm},
		{"one too large", stars(4001), api.ErrCount},
		{"one too deep", nested(101), api.ErrDepth},
		{"as deep as may be", nested(100), api.OK},
		{"as large as may be", chars(4000), api.OK},
		{"with a star", append(chars(3999), stars(1)...), api.ErrLarge},
		{"as many stars as may be", stars(2000), api.OK},
		{"too many stars", stars(2001), api.ErrLarge},
		{"too many stars within groups", nested(3, stars(1999)...), api.ErrLarge},
		{"as many variables as may be", variables[:1333], api.OK},
		{"too many variables", variables, api.ErrLarge},
		{"calls", slices.Repeat(parsed(t, "<F>"), 1333), api.OK},
		{"too many calls", slices.Repeat(parsed(t, "<F>"), 1334), api.ErrLarge},
	} {
		v, e := meta.Up(c.e)
		if e != c.want || e != api.OK && len(v) != 0 {
			t.Errorf("%s: Up = %d terms, %v, want %v", c.name, len(v), e, c.want)
		}
	}
}

// noMetacode are values that are the metacode of nothing.
var noMetacode = []string{
	"'*'", "'a*'", "('*')", "'*X'", "'*v'", "'*s' x", "'**'", "'**V'", "'* V'", "'*' V", "'*' S x", "'*' 5",
	"'*S'", "'*T'", "'*E'", "('*S') x", "'*S' 'x'", "'*S' 5", "'*S' (x)", "'*S' a-b", "'*S' \"a b\"", "'*E' \"\\\"\"", "'*SS' x",
	"'*T' " + strings.Repeat("v", 41), "'*' ()", "'*' ('F')", "'*' (5)", "'*' ((F))", "'*' (\"1F\")", "'*' (\"F G\")", "'*' (" + strings.Repeat("f", 41) + ")",
	"'*' (F '*')", "'*' (F '*' ())", "(a ('*S' -1))", "'*S' x '*'", "'*' ('*V')",
}

func TestDnErrors(t *testing.T) {
	for _, s := range noMetacode {
		if l, e := meta.Dn(parsed(t, s)); len(l) != 0 || e != meta.ErrMeta {
			t.Errorf("Dn(%s) = %s, %v", s, text(l), e)
		}
	}
	for _, c := range []struct {
		name string
		v    []api.Term
		want api.Errno
	}{
		{"a value that is none", append(bad, none...), api.ErrForm},
		{"a variable", append(parsed(t, "s.1"), none...), api.ErrForm},
		{"a call", parsed(t, "(<F>)"), api.ErrForm},
		{"a value too large", append(chars(4000), none...), api.ErrCount},
		{"a value too deep", append(nested(101), none...), api.ErrDepth},
		{"the longest names", parsed(t, "'*S' "+long("v", 40)+" '*' ("+long("f", 40)+")"), api.OK},
	} {
		if l, e := meta.Dn(c.v); e != c.want || e != api.OK && len(l) != 0 {
			t.Errorf("%s: Dn = %s, %v, want %v", c.name, text(l), e, c.want)
		}
	}
}

func TestRaiseAndLower(t *testing.T) {
	for _, c := range []struct {
		e      string
		levels int
		v      string
	}{
		{"'*' s.x <F>", 0, "'*' s.x <F>"},
		{"'*' s.x <F>", 1, "'*V*S' x '*' (F)"},
		{"'*' s.x <F>", 2, "'*VV*VS' x '*V' (F)"},
		{"'*' s.x <F>", 3, "'*VVV*VVS' x '*VV' (F)"},
		{"e.1", 10, "'*VVVVVVVVVE' \"1\""},
		{"('ab' W)", 10, "('ab' W)"},
		{"", 5, ""},
	} {
		v, e := meta.Raise(parsed(t, c.e), c.levels)
		if text(v) != c.v || e != api.OK {
			t.Errorf("Raise(%s, %d) = %s, %v, want %s", c.e, c.levels, text(v), e, c.v)
		}
		if term.Value(parsed(t, c.v)) != api.OK {
			continue
		}
		if l, e := meta.Lower(v, c.levels); text(l) != c.e || e != api.OK {
			t.Errorf("Lower(%s, %d) = %s, %v, want %s", text(v), c.levels, text(l), e, c.e)
		}
	}
}

func TestRaiseErrors(t *testing.T) {
	for _, c := range []struct {
		name   string
		e      []api.Term
		levels int
		want   api.Errno
	}{
		{"below 0", bad, -1, api.ErrRange},
		{"too high", bad, 11, api.ErrRange},
		{"far too high", nil, math.MaxInt, api.ErrRange},
		{"an expression that is none", bad, 0, api.ErrForm},
		{"an expression too large", chars(4001), 10, api.ErrCount},
		{"an expression too deep", nested(101), 0, api.ErrDepth},
		{"no level", stars(4000), 0, api.OK},
		{"too large at once", stars(2001), 1, api.ErrLarge},
		{"as large as may be", stars(1000), 3, api.OK},
		{"too large on the way", stars(1000), 4, api.ErrLarge},
		{"as large as may be behind ten levels", append(stars(363), chars(7)...), 10, api.OK},
		{"too large behind ten levels", append(stars(363), chars(8)...), 10, api.ErrLarge},
	} {
		if v, e := meta.Raise(c.e, c.levels); e != c.want || e != api.OK && len(v) != 0 {
			t.Errorf("%s: Raise = %d terms, %v, want %v", c.name, len(v), e, c.want)
		}
	}
}

func TestLowerErrors(t *testing.T) {
	for _, c := range []struct {
		name   string
		v      []api.Term
		levels int
		want   api.Errno
	}{
		{"below 0", bad, -1, api.ErrRange},
		{"too low", bad, 11, api.ErrRange},
		{"a value that is none", bad, 0, api.ErrForm},
		{"a variable", parsed(t, "e.1"), 0, api.ErrForm},
		{"a value too large", stars(4001), 1, api.ErrCount},
		{"a value too deep", nested(101), 1, api.ErrDepth},
		{"no level", none, 0, api.OK},
		{"no metacode", none, 1, meta.ErrMeta},
		{"no metacode on the way", parsed(t, "'*V'"), 2, meta.ErrMeta},
		{"the last one is no value", parsed(t, "'*VS' x"), 2, api.OK},
		{"one ahead of the last one is no value", parsed(t, "'*VS' x"), 3, meta.ErrMeta},
		{"a call ahead of the last one", parsed(t, "'*' (F)"), 2, meta.ErrMeta},
		{"a variable ahead of the last one", parsed(t, "('*E' x)"), 10, meta.ErrMeta},
	} {
		if l, e := meta.Lower(c.v, c.levels); e != c.want || e != api.OK && len(l) != 0 {
			t.Errorf("%s: Lower = %s, %v, want %v", c.name, text(l), e, c.want)
		}
	}
}

func sentence(left, right []api.Term) api.Sentence { return api.Sentence{Left: left, Right: right} }

func TestSentence(t *testing.T) {
	for _, c := range []struct{ left, right, want string }{
		{"", "", "(() ())"},
		{"s.1 e.x", "<F e.x> '*'", "(('*S' \"1\" '*E' x) ('*' (F '*E' x) '*V'))"},
		{"('a')", "e.unbound", "((('a')) ('*E' unbound))"},
	} {
		v, e := meta.Sentence(sentence(parsed(t, c.left), parsed(t, c.right)))
		if text([]api.Term{v}) != c.want || e != api.OK {
			t.Errorf("Sentence(%s = %s) = %s, %v, want %s", c.left, c.right, text([]api.Term{v}), e, c.want)
		}
	}
	call, large, deep := parsed(t, "<F>"), chars(4001), nested(101)
	for _, c := range []struct {
		name string
		s    api.Sentence
		want api.Errno
	}{
		{"with a test", api.Sentence{Left: call, Tests: []api.Test{{}}, Right: bad}, api.ErrCore},
		{"with a subject", api.Sentence{Left: call, Subject: chars(1)}, api.ErrCore},
		{"with a block", api.Sentence{Left: call, Block: []api.Sentence{{}}}, api.ErrCore},
		{"empty lists are none", api.Sentence{Tests: []api.Test{}, Subject: []api.Term{}, Block: []api.Sentence{}}, api.OK},
		{"a call in the pattern", sentence(call, large), api.ErrForm},
		{"a pattern too large", sentence(large, bad), api.ErrCount},
		{"a pattern too deep", sentence(deep, bad), api.ErrDepth},
		{"a result that is none", sentence(nil, bad), api.ErrForm},
		{"a result too large", sentence(nil, large), api.ErrCount},
		{"a result too deep", sentence(nil, deep), api.ErrDepth},
		{"as large as may be", sentence(chars(1997), chars(2000)), api.OK},
		{"larger", sentence(chars(1998), chars(2000)), api.ErrLarge},
		{"as deep as may be", sentence(nested(98), nested(98)), api.OK},
		{"a deeper pattern", sentence(nested(99), nil), api.ErrDepth},
		{"a deeper result", sentence(nil, nested(98, call...)), api.ErrDepth},
		{"large ahead of deep", sentence(nested(99), stars(2000)), api.ErrLarge},
	} {
		v, e := meta.Sentence(c.s)
		if e != c.want || e != api.OK && (v.Kind != 0 || v.Text != "" || len(v.Kids) != 0) {
			t.Errorf("%s: Sentence = %v, want %v", c.name, e, c.want)
		}
	}
}

func program(t testing.TB, s string) api.Program {
	t.Helper()
	p, at, e := syntax.Program(s)
	if e != api.OK {
		t.Fatalf("Program(%q) = %d, %v", s, at, e)
	}
	return p
}

// same reports whether two programs are equal.
func same(p, q api.Program) bool {
	return syntax.Equal(syntax.Module{Functions: p.Functions}, syntax.Module{Functions: q.Functions})
}

func TestProgramAndRead(t *testing.T) {
	for _, c := range []struct{ p, v string }{
		{"", ""},
		{"F { = ; }", "(F LOCAL (() ()))"},
		{"$ENTRY F { = ; }", "(F ENTRY (() ()))"},
		{"$ENTRY Go { e.1 s.x = <F (e.1) '*'>; } F { (e.1) t.2 = ; e.1 = W; }",
			"(Go ENTRY (('*E' \"1\" '*S' x) ('*' (F ('*E' \"1\") '*V')))) (F LOCAL ((('*E' \"1\") '*T' \"2\") ()) (('*E' \"1\") (W)))"},
	} {
		p := program(t, c.p)
		v, e := meta.Program(p)
		if text(v) != c.v || e != api.OK {
			t.Errorf("Program(%s) = %s, %v, want %s", c.p, text(v), e, c.v)
		}
		if q, e := meta.Read(parsed(t, c.v)); !same(p, q) || e != api.OK {
			t.Errorf("Read(%s) = %v, %v", c.v, q, e)
		}
	}
}

func function(name string, l ...api.Sentence) api.Function {
	return api.Function{Name: name, Sentences: l}
}

func TestProgramErrors(t *testing.T) {
	of := func(l ...api.Function) api.Program { return api.Program{Functions: l} }
	for _, c := range []struct {
		name string
		p    api.Program
		want api.Errno
	}{
		{"a name that is none", of(function("1")), check.ErrName},
		{"no sentence", of(function("F")), api.ErrCount},
		{"a variable that is not bound", of(function("F", sentence(nil, parsed(t, "e.1")))), check.ErrUnbound},
		{"a function twice", program(t, "F { = ; } F { = ; }"), api.ErrDuplicate},
		{"a condition", program(t, "F { e.1, e.1 : e.2 = ; }"), api.ErrCore},
		{"a block", program(t, "F { e.1, e.1 : { = ; }; }"), api.ErrCore},
		{"an error ahead of a condition", program(t, "F { e.1, e.1 : e.2 = e.3; }"), check.ErrUnbound},
		{"a condition ahead of the size", of(program(t, "F { e.1, e.1 : e.2 = ; }").Functions[0], function("G", sentence(chars(4000), nil))), api.ErrCore},
		{"as large as may be", of(function("F", sentence(chars(1997), chars(1997)))), api.OK},
		{"too large", of(function("F", sentence(chars(1997), chars(1998)))), api.ErrLarge},
		{"too large all together", of(function("F", sentence(chars(3000), nil)), function("G", sentence(chars(3000), nil))), api.ErrLarge},
		{"as deep as may be", of(function("F", sentence(nested(97), nested(97)))), api.OK},
		{"too deep", of(function("F", sentence(nil, nested(98)))), api.ErrDepth},
	} {
		if v, e := meta.Program(c.p); e != c.want || e != api.OK && len(v) != 0 {
			t.Errorf("%s: Program = %d terms, %v, want %v", c.name, len(v), e, c.want)
		}
	}
}

func TestReadErrors(t *testing.T) {
	for s, want := range map[string]api.Errno{
		// not of the form
		"F":                                     meta.ErrMeta,
		"'a'":                                   meta.ErrMeta,
		"()":                                    meta.ErrMeta,
		"(F)":                                   meta.ErrMeta,
		"('F' LOCAL (() ()))":                   meta.ErrMeta,
		"(5 LOCAL (() ()))":                     meta.ErrMeta,
		"((F) LOCAL (() ()))":                   meta.ErrMeta,
		"(F (() ()))":                           meta.ErrMeta,
		"(F Local (() ()))":                     meta.ErrMeta,
		"(F 'LOCAL' (() ()))":                   meta.ErrMeta,
		"(F ENTRY LOCAL (() ()))":               meta.ErrMeta,
		"(F LOCAL () ())":                       meta.ErrMeta,
		"(F LOCAL (()))":                        meta.ErrMeta,
		"(F LOCAL (() () ()))":                  meta.ErrMeta,
		"(F LOCAL (() a))":                      meta.ErrMeta,
		"(F LOCAL (a ()))":                      meta.ErrMeta,
		"(F LOCAL a)":                           meta.ErrMeta,
		"(F LOCAL (('*') ()))":                  meta.ErrMeta,
		"(F LOCAL (() ('*X')))":                 meta.ErrMeta,
		"(F LOCAL (() ('*' ())))":               meta.ErrMeta, // a call or a variable without a word as its name
		"(F LOCAL (('*' ()) ()))":               meta.ErrMeta,
		"(F LOCAL (() ('*' ('F'))))":            meta.ErrMeta,
		"(F LOCAL (() ('*' (5))))":              meta.ErrMeta,
		"(F LOCAL (() ('*S')))":                 meta.ErrMeta,
		"(F LOCAL (('*S' 'a') ()))":             meta.ErrMeta,
		"(F LOCAL (('*T' 1) ()))":               meta.ErrMeta,
		"(F LOCAL (('*E' (x)) ()))":             meta.ErrMeta,
		"(F LOCAL (() ())) a":                   meta.ErrMeta,
		"a (F LOCAL (() ()))":                   meta.ErrMeta,
		"(\"1\" LOCAL) (F LOCAL (() ('*')))":    meta.ErrMeta, // ahead of the errors of the program
		"(F LOCAL (('*S' a-b) ()) (('*') ()))":  meta.ErrMeta,
		"(F LOCAL (() ('*' (\"1\" '*'))))":      meta.ErrMeta,
		"(F LOCAL (() ('*E' x))) (G LOCAL (a))": meta.ErrMeta,
		// programs with an error
		"(F LOCAL)":                                     api.ErrCount,
		"(\"1\" LOCAL (() ()))":                         check.ErrName,
		"(\"F G\" ENTRY (() ()))":                       check.ErrName,
		"(" + long("f", 41) + " LOCAL (() ()))":         check.ErrName,
		"(F LOCAL (() ())) (F ENTRY (() ()))":           api.ErrDuplicate,
		"(F LOCAL (('*' (F)) ()))":                      check.ErrCalls,
		"(F LOCAL (('*' (\"1\")) ()))":                  check.ErrCalls, // the names of variables and calls may be wrong, too
		"(F LOCAL (('*S' a-b '*' (\"1\")) ()))":         check.ErrCalls,
		"(F LOCAL (() ('*' (\"1\"))))":                  api.ErrForm,
		"(F LOCAL (() ('*' (\"F G\" 'a'))))":            api.ErrForm,
		"(F LOCAL (() ((('*' (G '*' (\"1\")))))))":      api.ErrForm,
		"(F LOCAL (() ('*' (" + long("f", 41) + "))))":  api.ErrForm,
		"(F LOCAL (() ('*' (a-b_1))))":                  api.OK,
		"(F LOCAL (('*S' a-b) ()))":                     api.ErrForm,
		"(F LOCAL (('*T' \"a b\") ()))":                 api.ErrForm,
		"(F LOCAL ((('*E' " + long("v", 41) + ")) ()))": api.ErrForm,
		"(F LOCAL (('*E' " + long("v", 40) + ") ()))":   api.OK,
		"(F LOCAL (() ('*S' a-b)))":                     api.ErrForm,
		"(F LOCAL (() ('*E' x '*S' a-b)))":              api.ErrForm,
		"(F LOCAL (() ('*E' x)) (('*S' a-b) ()))":       check.ErrUnbound,
		"(F LOCAL (('*S' a-b) ()) (() ('*E' x)))":       api.ErrForm,
		"(F LOCAL (() ())) (F LOCAL (('*S' a-b) ()))":   api.ErrDuplicate,
		"(\"1\" LOCAL (('*S' a-b) ()))":                 check.ErrName,
		"(F LOCAL (() ('*E' x)))":                       check.ErrUnbound,
		"(F LOCAL" + long(" (() ())", 40) + ")":         api.OK,
		"(F LOCAL" + long(" (() ())", 41) + ")":         api.ErrCount,
		"(" + long("f", 40) + " ENTRY (() ('*' (G))))":  api.OK,
		long("(F LOCAL (() ())) ", 151):                 api.ErrCount,
		"(F LOCAL (('*T' x '*E' y) ('*E' y '*' (x))))":  api.OK,
	} {
		p, e := meta.Read(parsed(t, s))
		if e != want || e != api.OK && len(p.Functions) != 0 {
			t.Errorf("Read(%s) = %v, %v, want %v", s, p, e, want)
		}
	}
	for _, c := range []struct {
		v    []api.Term
		want api.Errno
	}{
		{append(parsed(t, "F"), bad...), api.ErrForm}, {parsed(t, "e.1"), api.ErrForm}, {chars(4001), api.ErrCount}, {nested(101), api.ErrDepth},
	} {
		if p, e := meta.Read(c.v); e != c.want || len(p.Functions) != 0 {
			t.Errorf("Read = %v, %v, want %v", p, e, c.want)
		}
	}
}

// spoil changes all terms of an expression.
func spoil(l []api.Term) {
	for i := range l {
		l[i].Text = "spoilt"
		spoil(l[i].Kids)
	}
}

func TestNothingIsChanged(t *testing.T) {
	e, v := parsed(t, "(s.1 (a)) <F (b '*')> 'c'"), parsed(t, "('*V' (a)) '*' (F (b)) 'c'")
	p := program(t, "F { (s.1 (a)) = <F (s.1)>; }")
	code, _ := meta.Program(p)
	before := text(e) + text(v) + text(code)
	for _, f := range []func([]api.Term, int) ([]api.Term, api.Errno){meta.Raise, meta.Lower} {
		for levels := range 2 {
			l, _ := f(v, levels)
			spoil(l)
		}
		l, _ := f(e, 0)
		spoil(l)
	}
	l, _ := meta.Up(e)
	spoil(l)
	l, _ = meta.Dn(v)
	spoil(l)
	u, _ := meta.Sentence(p.Functions[0].Sentences[0])
	spoil(u.Kids)
	l, _ = meta.Program(p)
	spoil(l)
	q, _ := meta.Read(code)
	spoil(q.Functions[0].Sentences[0].Left)
	spoil(q.Functions[0].Sentences[0].Right)
	if now := text(e) + text(v) + text(code); now != before {
		t.Errorf("the arguments were %s and are %s", before, now)
	}
	if again, _ := meta.Program(p); text(again) != text(code) {
		t.Errorf("the program was %s and is %s", text(code), text(again))
	}
}
