package extend_test

import (
	"slices"
	"strconv"
	"strings"
	"testing"

	"chiasmus/api"
	"chiasmus/extend"
	"chiasmus/syntax"
	"chiasmus/term"
)

var long = strings.Repeat

func parsed(t testing.TB, s string) []api.Term {
	t.Helper()
	l, at, e := term.Parse(s)
	if e != api.OK {
		t.Fatalf("Parse(%q) = %d, %v", s, at, e)
	}
	return l
}

func program(t testing.TB, s string) api.Program {
	t.Helper()
	p, at, e := syntax.Program(s)
	if e != api.OK {
		t.Fatalf("Program(%q) = %d, %v", s, at, e)
	}
	return p
}

// text returns the text of an expression; of a long one the number of its terms.
func text(l []api.Term) string {
	if nodes, _ := term.Size(l); nodes > 50 {
		return strconv.Itoa(nodes) + " terms"
	}
	s, e := term.Text(l)
	if e != api.OK {
		return "error " + e.Error()
	}
	return s
}

func bindingsText(l []api.Binding) string {
	var texts []string
	for _, b := range l {
		texts = append(texts, b.Var+"["+text(b.Value)+"]")
	}
	return strings.Join(texts, " ")
}

func isZero(s api.State) bool {
	return len(s.Field) == 0 && len(s.Store.Buried) == 0 && len(s.Store.Output) == 0 && s.Steps == 0
}

func chars(n int) []api.Term { return slices.Repeat(term.Chars("a"), n) }

func call(name string, l ...api.Term) []api.Term {
	return []api.Term{{Kind: api.Call, Text: name, Kids: l}}
}

func nested(depth int, l ...api.Term) []api.Term {
	for range depth {
		l = []api.Term{{Kind: api.Group, Kids: l}}
	}
	return l
}

const example = "F { e.1, e.1 : e.2 'b' e.3 = (e.2) (e.3); e.1 = <G e.1>; } G { e.1, e.1 : { s.2 e.3 = s.2; = Nil; }; }"

func TestCodes(t *testing.T) {
	if extend.ErrNested != 140 || extend.MaxNested != 30 || extend.MaxTries != 5000 {
		t.Error("a constant is another one")
	}
}

// runs has programs, expressions, and the states at their ends.
var runs = []struct {
	name, program, e string
	fuel             int
	want             string
	steps            int
	output           string
	code             api.Errno
}{
	{"the example", example, "<F 'abc'>", 9, "('a') ('c')", 1, "", 0},
	{"the example without b", example, "<F 'a'>", 9, "'a'", 2, "", 0},
	{"the example without anything", example, "<F>", 9, "Nil", 2, "", 0},
	{"the example with a group", example, "<F ('b')>", 9, "<G ('b')>", 1, "", api.ErrRecognition},
	{"a value", example, "'a' (b)", 0, "'a' (b)", 0, "", 0},
	{"a further match of the pattern", "F { e.1 s.2 e.3, s.2 : 'b' = (e.1) (e.3); }", "<F 'aabab'>", 9, "('aa') ('ab')", 1, "", 0},
	{"a further match of a condition", "F { e.1, e.1 : e.2 s.3 e.4, s.3 : B = (e.2) (e.4); }", "<F A A B A B>", 9, "(A A) (A B)", 1, "", 0},
	{"matches of the pattern and of a condition", "F { e.1 s.2 e.3, e.3 : e.4 s.2 s.6 e.5 = s.2 s.6; }", "<F 'abcbx'>", 9, "'bx'", 1, "", 0},
	{"matches of two conditions", "F { e.1, e.1 : e.2 s.3 e.4, e.4 : e.5 s.3 s.6 e.7, s.6 : 'x' = (e.2) (e.5); }", "<F 'abacaxbx'>", 9, "() ('bac')", 1, "", 0},
	{"a bound variable in a condition", "F { s.1 e.2, e.2 : e.3 s.1 e.4 = (e.3) (e.4); e.1 = none; }", "<F 'abcad'> <F 'abc'>", 9, "('bc') ('d') none", 2, "", 0},
	{"a bound e-variable", "F { (e.1) e.2, e.2 : e.3 e.1 e.4 = (e.3) (e.4); }", "<F ('bc') 'abcd'>", 9, "('a') ('d')", 1, "", 0},
	{"no condition holds", "F { e.1, e.1 : A = B; }", "<F C>", 9, "<F C>", 0, "", api.ErrRecognition},
	{"no pattern matches", "F { A, B : B = B; }", "<F C>", 9, "<F C>", 0, "", api.ErrRecognition},
	{"a condition with calls", "F { e.1, <G e.1> : s.2 = s.2; e.1 = no; } G { s.1 e.2 = s.1; = ; }", "<F AB C> <F>", 9, "AB no", 4, "", 0},
	{"conditions within conditions", "F { e.1, <G e.1> : A = yes; e.1 = no; } G { e.1, <H e.1> : B = A; e.1 = e.1; } H { s.1 = B; e.1 = C; }", "<F X> <F X Y>", 9, "yes no", 6, "", 0},
	{"the store stays changed", "F { e.1, <Prout a> : A = ; e.1, <Prout b> : = <Cp 'k'>; }", "<Br 'k=v'> <F>", 9, "'v'", 5, "a|b", 0},
	{"the store changes match by match", "F { e.1 s.2 e.3, <Prout s.2> : = <X>; e.1 s.2 e.3, <Prout s.2> (s.2) : (b) = s.2; }", "<F a b c>", 9, "<X>", 2, "a", api.ErrUndefined},
	{"each match is evaluated", "F { e.1 s.2 e.3, <Prout s.2> (s.2) : (b) = s.2; }", "<F a b c>", 9, "b", 3, "a|b", 0},
	{"a block", "F { s.1 e.2, e.2 : { s.1 = same; s.3 = s.1 s.3; = one; }; }", "<F a a> <F a b> <F a>", 9, "same a b one", 3, "", 0},
	{"a block that does not take it", "F { s.1, s.1 : { a = b; }; s.1 = c; }", "<F a> <F b>", 9, "b <F b>", 1, "", api.ErrRecognition},
	{"no other match for a block", "F { e.1 s.2 e.3, s.2 : { b = b; }; }", "<F a b>", 9, "<F a b>", 0, "", api.ErrRecognition},
	{"no other match of a condition for a block", "F { e.1, e.1 : e.2 s.3 e.4, s.3 : { b = b; }; }", "<F a b>", 9, "<F a b>", 0, "", api.ErrRecognition},
	{"a subject with calls", "F { e.1, <G e.1> <Prout e.1> : { s.1 = (s.1); }; } G { e.1 s.2 = s.2; }", "<F a b>", 9, "(b)", 3, "a b", 0},
	{"blocks in blocks", "F { s.1 e.2, e.2 : { s.3 e.4, s.3 : { s.1 = one e.4; b, e.4 : { = two; }; }; = none; }; }", "<F a a x> <F a b> <F a>", 9, "one x two none", 3, "", 0},
	{"conditions in blocks", "F { e.1, e.1 : { e.2 s.3 e.4, s.3 : b = (e.2) e.4; e.2 = e.1 e.2; }; }", "<F a b c> <F a c>", 9, "(a) c a c a c", 2, "", 0},
	{"a condition ahead of a block", "F { e.1, e.1 : e.2 b e.3, e.3 : { = end; e.4 = (e.2) e.4; }; e.1 = no; }", "<F a b> <F a b c> <F d>", 9, "end (a) c no", 3, "", 0},
	{"a call in a block's result", "F { e.1, e.1 : { a e.2 = b <F e.2>; = ; }; }", "<F a a>", 9, "b b", 3, "", 0},
	{"a built-in function", "F { s.1 e.2, <Compare s.1 5> : '-' = low; e.1 = high; }", "<F 3> <F 7>", 9, "low high", 4, "", 0},
	{"a program's function with the name of a built-in one", "Add { e.1, e.1 : s.2 e.3 = s.2; }", "<Add 1 2>", 9, "1", 1, "", 0},
	{"an unknown function in a condition", "F { e.1, <X> : = ; }", "a <F b> c", 9, "a <F b> c", 0, "", api.ErrUndefined},
	{"an unknown function in a subject", "F { e.1, <Prout a> <X> : { = ; }; }", "a <F b> c", 9, "a <F b> c", 1, "a", api.ErrUndefined},
	{"an error of a built-in function in a condition", "F { e.1, <Add e.1> : s.2 = s.2; e.1 = no; }", "<F 1 2> <F 1>", 9, "3 <F 1>", 2, "", api.ErrBuiltin},
	{"no sentence in a condition", "F { e.1, <G e.1> : = ; e.1 = no; } G { a = ; }", "<F a> <F b>", 9, "<F b>", 2, "", api.ErrRecognition},

	{"the fuel is used up", example, "<F 'a'>", 1, "<G 'a'>", 1, "", api.ErrFuel},
	{"just enough fuel", example, "<F 'a'>", 2, "'a'", 2, "", 0},
	{"no fuel", example, "<F 'a'>", 0, "<F 'a'>", 0, "", api.ErrFuel},
	{"no fuel for a name that there is not", example, "<X>", 0, "<X>", 0, "", api.ErrFuel},
	{"the fuel is used up in a condition", "F { e.1, <G> <G> : = ; } G { = <Prout a>; }", "<F>", 3, "<F>", 3, "a", api.ErrFuel},
	{"the fuel is used up behind a condition", "F { e.1, <G> : = ; } G { = <Prout a>; }", "<F>", 2, "<F>", 2, "a", api.ErrFuel},
	{"enough fuel behind a condition", "F { e.1, <G> : = ; } G { = <Prout a>; }", "<F>", 3, "", 3, "a", 0},
	{"no sentence, ahead of the fuel", "F { e.1, <G> : a = ; } G { = <Prout a>; }", "<F>", 2, "<F>", 2, "a", api.ErrRecognition},
	{"the fuel is used up behind a subject", "F { e.1, <G> : { = a; }; } G { = ; }", "b <F>", 1, "b <F>", 1, "", api.ErrFuel},
	{"a loop in a condition", "F { e.1, <F> : = ; }", "<F>", 100000, "<F>", 0, "", extend.ErrNested},
	{"a loop without a call in a condition", "F { = <F>; }", "<F>", 1000, "<F>", 1000, "", api.ErrFuel},
}

func TestRun(t *testing.T) {
	for _, c := range runs {
		s, code := extend.Run(program(t, c.program), parsed(t, c.e), c.fuel)
		output := strings.Join(s.Store.Output, "|")
		if code != c.code || !term.Equal(s.Field, parsed(t, c.want)) || s.Steps != c.steps || output != c.output {
			t.Errorf("%s: Run = %s, %d, %s, %v, want %s, %d, %s, %v", c.name, text(s.Field), s.Steps, output, code, c.want, c.steps, c.output, c.code)
		}
	}
}
