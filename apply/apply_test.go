package apply_test

import (
	"slices"
	"strconv"
	"strings"
	"testing"

	"chiasmus/api"
	"chiasmus/apply"
	"chiasmus/term"
)

var long = strings.Repeat

func parsed(t testing.TB, s string) []api.Term {
	t.Helper()
	l, at, e := term.Parse(s)
	if e != api.OK {
		t.Fatalf("Parse(%q) = %d, %v", s, at, e)
	}
	return l
}

func text(l []api.Term) string {
	s, e := term.Text(l)
	if e != api.OK {
		return "error " + e.Error()
	}
	return s
}

// bindings returns bindings from the names of variables and the texts of their values.
func bindings(t testing.TB, l ...string) []api.Binding {
	t.Helper()
	var bs []api.Binding
	for i := 0; i < len(l); i += 2 {
		bs = append(bs, api.Binding{Var: l[i], Value: parsed(t, l[i+1])})
	}
	return bs
}

// textOf returns the text of a substitution: each variable, and its value in brackets.
func textOf(l []api.Binding) string {
	var texts []string
	for _, b := range l {
		texts = append(texts, b.Var+"["+text(b.Value)+"]")
	}
	return strings.Join(texts, " ")
}

// numbered returns bindings of so many variables to nothing.
func numbered(from, to int) []api.Binding {
	var l []api.Binding
	for i := from; i < to; i++ {
		l = append(l, api.Binding{Var: "e." + strconv.Itoa(i)})
	}
	return l
}

// nested returns groups within each other.
func nested(depth int) []api.Term {
	var l []api.Term
	for range depth {
		l = []api.Term{{Kind: api.Group, Kids: l}}
	}
	return l
}

func TestCode(t *testing.T) {
	if apply.ErrSubst != 90 {
		t.Errorf("ErrSubst is %d", int(apply.ErrSubst))
	}
}

var bad = []api.Term{{Kind: api.Number, Text: "01"}}

type substCase struct {
	name string
	l    []api.Binding
	want api.Errno
}

func substCases(t *testing.T) []substCase {
	return []substCase{
		{"none", nil, api.OK},
		{"symbols", bindings(t, "s.1", "'a'", "s.2", "W", "s.3", "-1", "t.1", "'a'", "e.1", "a"), api.OK},
		{"variables", bindings(t, "s.1", "s.1", "t.1", "t.2", "t.2", "s.1", "e.1", "e.1", "e.2", "t.1 s.1"), api.OK},
		{"groups", bindings(t, "t.1", "()", "t.2", "(e.1 <F>)", "e.1", "(a) (b)"), api.OK},
		{"calls", bindings(t, "e.1", "<F e.1> <G>"), api.OK},
		{"nothing", bindings(t, "e.1", ""), api.OK},
		{"a longest name", bindings(t, "e."+long("v", 40), ""), api.OK},
		{"a name too long", bindings(t, "e."+long("v", 41), ""), apply.ErrSubst},
		{"no name", bindings(t, "e.", ""), apply.ErrSubst},
		{"an empty variable", bindings(t, "", ""), apply.ErrSubst},
		{"no kind", bindings(t, "x.1", ""), apply.ErrSubst},
		{"a wrong byte", bindings(t, "e.a_b", ""), apply.ErrSubst},
		{"a name twice", bindings(t, "e.1", "", "e.2", "", "e.1", "a"), api.ErrDuplicate},
		{"names of other kinds", bindings(t, "e.1", "", "t.1", "a", "s.1", "a"), api.OK},
		{"a name that is none, ahead of its value", []api.Binding{{Var: "e", Value: bad}}, apply.ErrSubst},
		{"a name twice, ahead of its value", append(bindings(t, "s.1", "a"), api.Binding{Var: "s.1", Value: bad}), api.ErrDuplicate},
		{"a value that is none", []api.Binding{{Var: "e.1", Value: bad}}, api.ErrForm},
		{"a value that is none, ahead of its kind", []api.Binding{{Var: "s.1", Value: append(bad, bad...)}}, api.ErrForm},
		{"a value too large", []api.Binding{{Var: "s.1", Value: term.Chars(long("a", 4001))}}, api.ErrCount},
		{"a value too deep", []api.Binding{{Var: "s.1", Value: nested(101)}}, api.ErrDepth},
		{"nothing for a symbol", bindings(t, "s.1", ""), apply.ErrSubst},
		{"two symbols for one", bindings(t, "s.1", "'ab'"), apply.ErrSubst},
		{"a group for a symbol", bindings(t, "s.1", "(a)"), apply.ErrSubst},
		{"a t-variable for a symbol", bindings(t, "s.1", "t.1"), apply.ErrSubst},
		{"an e-variable for a symbol", bindings(t, "s.1", "e.1"), apply.ErrSubst},
		{"a call for a symbol", bindings(t, "s.1", "<F>"), apply.ErrSubst},
		{"nothing for a term", bindings(t, "t.1", ""), apply.ErrSubst},
		{"two terms for one", bindings(t, "t.1", "s.1 t.1"), apply.ErrSubst},
		{"an e-variable for a term", bindings(t, "t.1", "e.1"), apply.ErrSubst},
		{"a call for a term", bindings(t, "t.1", "<F>"), apply.ErrSubst},
		{"the first binding", append(bindings(t, "t.1", "<F>"), api.Binding{Var: "e.2", Value: bad}), apply.ErrSubst},
		{"the first binding, twice", append(bindings(t, "e.1", "", "e.1", ""), api.Binding{Var: "e", Value: bad}), api.ErrDuplicate},
		{"as many as may be", numbered(0, 4000), api.OK},
		{"too many", numbered(0, 4001), api.ErrCount},
		{"too many wrong ones", make([]api.Binding, 4001), api.ErrCount},
	}
}

func TestCheck(t *testing.T) {
	for _, c := range substCases(t) {
		if e := apply.Check(c.l); e != c.want {
			t.Errorf("%s: Check = %v, want %v", c.name, e, c.want)
		}
		l, e := apply.To(parsed(t, "e.new"), c.l)
		if e != c.want || e == api.OK && text(l) != "e.new" || e != api.OK && len(l) != 0 {
			t.Errorf("%s: To = %s, %v, want %v", c.name, text(l), e, c.want)
		}
		m, e := apply.Compose(c.l, nil)
		if e != c.want || e == api.OK && textOf(m) != textOf(c.l) || e != api.OK && len(m) != 0 {
			t.Errorf("%s: Compose ahead of nothing = %s, %v, want %v", c.name, textOf(m), e, c.want)
		}
		m, e = apply.Compose(nil, c.l)
		if e != c.want || e == api.OK && textOf(m) != textOf(c.l) || e != api.OK && len(m) != 0 {
			t.Errorf("%s: Compose behind nothing = %s, %v, want %v", c.name, textOf(m), e, c.want)
		}
	}
}

func TestTo(t *testing.T) {
	for _, c := range []struct {
		e    string
		l    []string
		want string
	}{
		{"", []string{"e.1", "a"}, ""},
		{"(e.1) s.2 e.1", []string{"e.1", "'ab'"}, "('ab') s.2 'ab'"},
		{"e.1", nil, "e.1"},
		{"e.1 e.1", []string{"e.1", ""}, ""},
		{"(e.1)", []string{"e.1", ""}, "()"},
		{"<F e.1>", []string{"e.1", ""}, "<F>"},
		{"<F <G s.1> t.1>", []string{"s.1", "a", "t.1", "(s.1)"}, "<F <G a> (s.1)>"},
		{"s.1 t.1 e.1", []string{"e.1", "s.1 t.1", "s.1", "s.2"}, "s.2 t.1 s.1 t.1"},
		{"s.1 s.2", []string{"s.1", "s.2", "s.2", "s.1"}, "s.2 s.1"},
		{"e.1", []string{"e.1", "e.1 e.1"}, "e.1 e.1"},
		{"e.1", []string{"e.1", "<F (e.1)>"}, "<F (e.1)>"},
		{"e.1 e", []string{"e.2", "a", "s.1", "b", "t.1", "c"}, "e.1 e"},
		{"'a' e.1 'b'", []string{"e.1", "'c'"}, "'acb'"},
	} {
		l, e := apply.To(parsed(t, c.e), bindings(t, c.l...))
		if text(l) != c.want || e != api.OK {
			t.Errorf("To of %s by %v = %s, %v, want %s", c.e, c.l, text(l), e, c.want)
		}
	}
}

func TestToErrors(t *testing.T) {
	twice := bindings(t, "e.1", "", "e.1", "")
	chars := func(n int) []api.Term { return term.Chars(long("a", n)) }
	to := func(v []api.Term) []api.Binding { return []api.Binding{{Var: "e.1", Value: v}} }
	within := func(l []api.Term, depth int) []api.Term {
		for range depth {
			l = []api.Term{{Kind: api.Call, Text: "F", Kids: l}}
		}
		return l
	}
	one := parsed(t, "e.1")
	for _, c := range []struct {
		name string
		e    []api.Term
		l    []api.Binding
		want api.Errno
	}{
		{"an expression that is none", bad, twice, api.ErrForm},
		{"an expression too large", chars(4001), twice, api.ErrCount},
		{"an expression too deep", nested(101), twice, api.ErrDepth},
		{"a variable twice", one, twice, api.ErrDuplicate},
		{"as large as may be", append(chars(1), one...), to(chars(3999)), api.OK},
		{"too large", append(chars(1), one...), to(chars(4000)), api.ErrLarge},
		{"as large as may be, often", parsed(t, "e.1 (e.1) e.1"), to(chars(1333)), api.OK},
		{"too large, often", parsed(t, "e.1 (e.1) e.1"), to(chars(1334)), api.ErrLarge},
		{"far too large", slices.Repeat(one, 4000), to(chars(4000)), api.ErrLarge},
		{"smaller than it was", append(slices.Repeat(one, 3999), chars(1)...), to(nil), api.OK},
		{"as deep as may be", within(one, 60), to(nested(40)), api.OK},
		{"too deep", within(one, 60), to(nested(41)), api.ErrLarge},
		{"nothing in a deep place", within(one, 100), to(nil), api.OK},
		{"a symbol in a deep place", within(one, 100), to(chars(1)), api.OK},
		{"a group in a deep place", within(one, 100), to(nested(1)), api.ErrLarge},
		{"a call in a deep place", within(one, 100), to(parsed(t, "<F>")), api.ErrLarge},
		{"a deep value that is not used", within(nil, 100), to(nested(100)), api.OK},
	} {
		l, e := apply.To(c.e, c.l)
		if e != c.want || e != api.OK && len(l) != 0 {
			t.Errorf("%s: To = %d terms, %v, want %v", c.name, len(l), e, c.want)
		}
	}
}

func TestCompose(t *testing.T) {
	for _, c := range []struct {
		a, b []string
		want string
	}{
		{nil, nil, ""},
		{[]string{"e.1", "e.2 s.1"}, []string{"e.2", "'a'", "s.1", "b"}, "e.1['a' b] e.2['a'] s.1[b]"},
		{[]string{"e.1", "e.2", "e.2", "e.1"}, []string{"e.1", "x", "e.3", "y", "e.2", "z"}, "e.1[z] e.2[x] e.3[y]"},
		{[]string{"e.1", "e.1"}, []string{"e.1", "x"}, "e.1[x]"},
		{[]string{"s.1", "s.2"}, []string{"s.2", "s.1"}, "s.1[s.1] s.2[s.1]"},
		{[]string{"t.1", "(t.2 e.1)"}, []string{"e.1", ""}, "t.1[(t.2)] e.1[]"},
		{[]string{"t.1", "t.2"}, []string{"t.2", "(a)"}, "t.1[(a)] t.2[(a)]"},
		{[]string{"e.1", "<F e.1 e.2>"}, []string{"e.2", "<G>"}, "e.1[<F e.1 <G>>] e.2[<G>]"},
		{[]string{"e.2", "a"}, []string{"e.3", "e.2", "e.1", "e.1"}, "e.2[a] e.3[e.2] e.1[e.1]"},
	} {
		l, e := apply.Compose(bindings(t, c.a...), bindings(t, c.b...))
		if textOf(l) != c.want || e != api.OK {
			t.Errorf("Compose(%v, %v) = %s, %v, want %s", c.a, c.b, textOf(l), e, c.want)
		}
	}
}

func TestComposeErrors(t *testing.T) {
	twice, none := bindings(t, "e.1", "", "e.1", ""), bindings(t, "x", "")
	chars := func(v string, n int) []api.Binding {
		return []api.Binding{{Var: v, Value: term.Chars(long("a", n))}}
	}
	double := bindings(t, "e.1", "e.2 e.2")
	for _, c := range []struct {
		name string
		a, b []api.Binding
		want api.Errno
		size int
	}{
		{"the first one ahead of the second one", twice, none, api.ErrDuplicate, 0},
		{"the second one", double, none, apply.ErrSubst, 0},
		{"the second one ahead of a large value", append(slices.Clone(double), double...), chars("e.2", 2001), api.ErrDuplicate, 0},
		{"as large as may be", double, chars("e.2", 2000), api.OK, 2},
		{"too large", double, chars("e.2", 2001), api.ErrLarge, 0},
		{"too deep", bindings(t, "e.1", "(e.2)"), []api.Binding{{Var: "e.2", Value: nested(100)}}, api.ErrLarge, 0},
		{"as many as may be", numbered(0, 2500), numbered(1000, 4000), api.OK, 4000},
		{"too many", numbered(0, 2500), numbered(1000, 4001), api.ErrCount, 0},
		{"too large ahead of too many", append(numbered(10, 4010-1), double...), append(numbered(5000, 5001), chars("e.2", 2001)...), api.ErrLarge, 0},
	} {
		l, e := apply.Compose(c.a, c.b)
		if e != c.want || len(l) != c.size {
			t.Errorf("%s: Compose = %d bindings, %v, want %d, %v", c.name, len(l), e, c.size, c.want)
		}
	}
}

func TestRenaming(t *testing.T) {
	for _, c := range []struct{ a, b, want string }{
		{"", "", ""},
		{"'a' W (1) <F>", "'a' W (1) <F>", ""},
		{"e.1", "e.1", "e.1[e.1]"},
		{"e.1 s.2 (t.3 e.1)", "e.x s.y (t.z e.x)", "e.1[e.x] s.2[s.y] t.3[t.z]"},
		{"s.1 s.2", "s.2 s.1", "s.1[s.2] s.2[s.1]"},
		{"s.1 t.1 e.1", "s.2 t.2 e.2", "s.1[s.2] t.1[t.2] e.1[e.2]"},
		{"s.1 e.2", "s.2 e.2", "s.1[s.2] e.2[e.2]"},
		{"<F e.1 <G e.2>>", "<F e.2 <G e.3>>", "e.1[e.2] e.2[e.3]"},
		{"(e.2) e.1", "(e.1) e.2", "e.2[e.1] e.1[e.2]"},
		{"e.1", "", "none"},
		{"", "e.1", "none"},
		{"e.1", "e.1 e.2", "none"},
		{"e.1 e.2", "e.3 e.3", "none"},
		{"e.1 e.1", "e.2 e.3", "none"},
		{"e.1 (e.2 e.1)", "e.2 (e.1 e.1)", "none"},
		{"s.1", "t.1", "none"},
		{"t.1", "e.1", "none"},
		{"s.1", "a", "none"},
		{"a", "s.1", "none"},
		{"a", "b", "none"},
		{"a", "'a'", "none"},
		{"'1'", "1", "none"},
		{"(a)", "<F a>", "none"},
		{"<F e.1>", "<G e.1>", "none"},
		{"(e.1)", "(e.1) a", "none"},
		{"(e.1) a", "(e.1 a)", "none"},
	} {
		l, ok := apply.Renaming(parsed(t, c.a), parsed(t, c.b))
		if ok != (c.want != "none") || ok && textOf(l) != c.want || !ok && len(l) != 0 {
			t.Errorf("Renaming(%s, %s) = %s, %v, want %s", c.a, c.b, textOf(l), ok, c.want)
		}
	}
	odd := []api.Term{{Kind: api.EVar, Text: "-"}}
	for _, l := range [][]api.Term{bad, odd, nested(101), term.Chars(long("a", 4001))} {
		if m, ok := apply.Renaming(l, l); ok || len(m) != 0 {
			t.Errorf("Renaming of what is no result = %s", textOf(m))
		}
		if m, ok := apply.Renaming(parsed(t, "e.1"), l); ok || len(m) != 0 {
			t.Errorf("Renaming to what is no result = %s", textOf(m))
		}
	}
}

func TestFresh(t *testing.T) {
	for _, c := range []struct {
		e        string
		from     int
		want     string
		renaming string
	}{
		{"", 7, "", ""},
		{"'a' (W)", 7, "'a' (W)", ""},
		{"e.x s.y e.x", 5, "e.5 s.6 e.5", "e.x[e.5] s.y[s.6]"},
		{"s.1 t.1 e.1", 1, "s.1 t.2 e.3", "s.1[s.1] t.1[t.2] e.1[e.3]"},
		{"s.2 s.1", 1, "s.1 s.2", "s.2[s.1] s.1[s.2]"},
		{"(e.a <F e.b>) e.a", 0, "(e.0 <F e.1>) e.0", "e.a[e.0] e.b[e.1]"},
		{"e.a e.b", 1000000000, "e.1000000000 e.1000000001", "e.a[e.1000000000] e.b[e.1000000001]"},
	} {
		l, m, e := apply.Fresh(parsed(t, c.e), c.from)
		if text(l) != c.want || textOf(m) != c.renaming || e != api.OK {
			t.Errorf("Fresh(%s, %d) = %s, %s, %v", c.e, c.from, text(l), textOf(m), e)
		}
	}
	for _, c := range []struct {
		e    []api.Term
		from int
		want api.Errno
	}{
		{bad, -1, api.ErrForm},
		{nested(101), 1, api.ErrDepth},
		{nil, -1, api.ErrRange},
		{nil, 1000000001, api.ErrRange},
		{term.Chars(long("a", 4001)), -1, api.ErrCount},
	} {
		if l, m, e := apply.Fresh(c.e, c.from); e != c.want || len(l) != 0 || len(m) != 0 {
			t.Errorf("Fresh from %d = %s, %s, %v, want %v", c.from, text(l), textOf(m), e, c.want)
		}
	}
	var many []api.Term
	for i := range 4000 {
		many = append(many, api.Term{Kind: api.EVar, Text: "x" + strconv.Itoa(i)})
	}
	l, m, e := apply.Fresh(many, 10)
	if e != api.OK || len(l) != 4000 || len(m) != 4000 || l[3999].Text != "4009" {
		t.Errorf("Fresh of many variables: %d, %d, %v", len(l), len(m), e)
	}
}

func TestNext(t *testing.T) {
	for s, want := range map[string]int{
		"":                  1,
		"9 '9' (W)":         1,
		"e.x s.y":           1,
		"e.0":               1,
		"e.1":               2,
		"e.00 e.07":         1,
		"e.7x e.x7":         1,
		"s.3 t.12 (e.5)":    13,
		"<F (e.41)> s.2":    42,
		"e.1000000000":      1000000001,
		"e.1000000001 e.4":  5,
		"e.10000000000 s.2": 3,
		"e.99999999999999999999999999999999999 s.8": 9,
	} {
		if n := apply.Next(parsed(t, s)); n != want {
			t.Errorf("Next(%s) = %d, want %d", s, n, want)
		}
	}
	odd := []api.Term{{Kind: api.Word, Text: "50"}, {Kind: api.Number, Text: "60"}, {Kind: api.Call, Text: "70"}, {Kind: 9, Text: "80"},
		{Kind: api.EVar, Text: "+90"}, {Kind: api.EVar, Text: "-1"}, {Kind: api.EVar, Text: " 95"}, {Kind: api.EVar},
		{Kind: api.SVar, Text: "x", Kids: []api.Term{{Kind: 0, Kids: []api.Term{{Kind: api.TVar, Text: "6"}}}}}}
	if n := apply.Next(odd); n != 7 {
		t.Errorf("Next of any expression = %d", n)
	}
}

func TestUses(t *testing.T) {
	odd := []api.Term{{Kind: api.Word, Text: "x", Kids: parsed(t, "e.1 s.1")}, {Kind: api.EVar, Text: "?", Kids: parsed(t, "s.1")}, {Kind: 77, Text: "s.2"}}
	for _, c := range []struct {
		e    []api.Term
		want []apply.Use
	}{
		{nil, nil},
		{parsed(t, "'a' (W)"), nil},
		{parsed(t, "e.1"), []apply.Use{{"e.1", 1}}},
		{parsed(t, "s.2 (e.1 s.2 <F t.1 s.2>) t.1 s.1"), []apply.Use{{"s.2", 3}, {"e.1", 1}, {"t.1", 2}, {"s.1", 1}}},
		{odd, []apply.Use{{"e.1", 1}, {"s.1", 2}, {"e.?", 1}}},
	} {
		if l := apply.Uses(c.e); !slices.Equal(l, c.want) {
			t.Errorf("Uses = %v, want %v", l, c.want)
		}
	}
}

func TestCopies(t *testing.T) {
	for _, c := range []struct {
		left, right string
		want        []string
		e           api.Errno
	}{
		{"", "", nil, api.OK},
		{"s.1 e.2", "e.2 s.1 e.2", []string{"e.2"}, api.OK},
		{"e.1 e.2 t.3", "<F (t.3) e.1> e.2 e.1 t.3 t.3", []string{"t.3", "e.1"}, api.OK},
		{"e.1 e.1 (s.2)", "e.1 s.2", nil, api.OK},
		{"(e.1)", "e.1 e.1", []string{"e.1"}, api.OK},
		{"e.1", "'aa'", nil, api.OK},
		{"e.1", "e.2", nil, apply.ErrSubst},
		{"e.1", "s.1", nil, apply.ErrSubst},
		{"e.1", "e.1 e.1 (<F e.2>)", nil, apply.ErrSubst},
		{"", "e.1", nil, apply.ErrSubst},
		{"<F e.1>", "e.2", nil, api.ErrForm},
	} {
		l, e := apply.Copies(parsed(t, c.left), parsed(t, c.right))
		if !slices.Equal(l, c.want) || e != c.e {
			t.Errorf("Copies(%s, %s) = %v, %v, want %v, %v", c.left, c.right, l, e, c.want, c.e)
		}
	}
	for _, c := range []struct {
		left, right []api.Term
		want        api.Errno
	}{
		{bad, nested(101), api.ErrForm},
		{nested(101), bad, api.ErrDepth},
		{nil, bad, api.ErrForm},
		{nil, append(parsed(t, "e.1"), term.Chars(long("a", 4000))...), api.ErrCount},
	} {
		if l, e := apply.Copies(c.left, c.right); len(l) != 0 || e != c.want {
			t.Errorf("Copies = %v, %v, want %v", l, e, c.want)
		}
	}
}

// TestNothingIsChanged changes results, and looks whether arguments or other results change.
func TestNothingIsChanged(t *testing.T) {
	e, l := parsed(t, "(e.1 (s.2)) e.1 <F e.1> (k)"), bindings(t, "e.1", "(x (y)) z", "s.2", "s.3")
	second := bindings(t, "e.4", "(q)")
	before := text(e) + textOf(l) + textOf(second)
	spare := append(slices.Clone(e), parsed(t, "behind")...)
	a, _ := apply.To(spare[:len(e)], l)
	if spare[len(e)].Text != "behind" {
		t.Error("To changed what is behind the end")
	}
	c, _ := apply.Compose(l, second)
	f, r, _ := apply.Fresh(e, 1)
	a[0].Kids[0].Kids[0].Text = "changed"
	if text(a) != "((changed (y)) z (s.3)) (x (y)) z <F (x (y)) z> (k)" {
		t.Errorf("parts of the result share memory: %s", text(a))
	}
	a[len(a)-1].Kids[0].Text = "changed"
	for i := range c {
		for j := range c[i].Value {
			c[i].Value[j].Text = "changed"
			for k := range c[i].Value[j].Kids {
				c[i].Value[j].Kids[k].Text = "changed"
			}
		}
	}
	r[0].Value[0].Text = "changed"
	if text(f) != "(e.1 (s.2)) e.1 <F e.1> (k)" {
		t.Errorf("the expression and the renaming of Fresh share memory: %s", text(f))
	}
	f[0].Kids[1].Kids[0].Text = "changed"
	if now := text(e) + textOf(l) + textOf(second); now != before {
		t.Errorf("the arguments were %s and are %s", before, now)
	}
}

// TestWithin has other limits of the terms of a result, but not of its depth.
func TestWithin(t *testing.T) {
	large := []api.Binding{{Var: "e.1", Value: term.Chars(long("a", 4000))}}
	for _, c := range []struct {
		e    []api.Term
		l    []api.Binding
		most int
		want api.Errno
	}{
		{parsed(t, "e.1 (e.1)"), large, 8001, api.OK},
		{parsed(t, "e.1 (e.1)"), large, 8000, api.ErrLarge},
		{parsed(t, "e.1 <F e.1 e.1> e.1 e.1"), large, 20001, api.OK},
		{parsed(t, "e.1 <F e.1 e.1> e.1 e.1"), large, 20000, api.ErrLarge},
		{parsed(t, "'ab'"), nil, 2, api.OK},
		{parsed(t, "'ab'"), nil, 1, api.ErrLarge},
		{nil, nil, 0, api.OK},
		{nil, nil, -1, api.OK},
		{parsed(t, "(e.1)"), []api.Binding{{Var: "e.1", Value: nested(99)}}, 20000, api.OK},
		{parsed(t, "(e.1)"), []api.Binding{{Var: "e.1", Value: nested(100)}}, 20000, api.ErrLarge},
		{bad, []api.Binding{{Var: "x"}}, 0, api.ErrForm},
		{nil, []api.Binding{{Var: "x"}}, 0, apply.ErrSubst},
	} {
		got, e := apply.Within(c.e, c.l, c.most)
		var want []api.Term
		if c.want == api.OK {
			want = simple(c.e, c.l)
		}
		if e != c.want || !term.Equal(got, want) {
			t.Errorf("Within %d = %d terms, %v, want %v", c.most, len(got), e, c.want)
		}
	}
}

// simple puts values in without asking for limits.
func simple(e []api.Term, l []api.Binding) []api.Term {
	var out []api.Term
	for _, t := range e {
		i := slices.IndexFunc(l, func(b api.Binding) bool { return b.Var == term.Name(t) })
		if i >= 0 {
			out = append(out, l[i].Value...)
			continue
		}
		t.Kids = simple(t.Kids, l)
		out = append(out, t)
	}
	return out
}
