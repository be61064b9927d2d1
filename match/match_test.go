package match_test

import (
	"slices"
	"strconv"
	"strings"
	"testing"

	"chiasmus/api"
	"chiasmus/match"
	"chiasmus/term"
)

var long = strings.Repeat

func parsed(t testing.TB, s string) []api.Term {
	t.Helper()
	l, at, e := term.Parse(s)
	if e != api.OK {
		t.Fatalf("Parse(%q) = %d, %v", s, at, e)
	}
	return l
}

// bindings returns bindings from the names of variables and the texts of their values.
func bindings(t testing.TB, l ...string) []api.Binding {
	t.Helper()
	var bs []api.Binding
	for i := 0; i < len(l); i += 2 {
		bs = append(bs, api.Binding{Var: l[i], Value: parsed(t, l[i+1])})
	}
	return bs
}

// textOf returns the text of a match: each variable, and its value in brackets.
func textOf(l []api.Binding) string {
	var b strings.Builder
	for i, x := range l {
		if i > 0 {
			b.WriteByte(' ')
		}
		s, e := term.Text(x.Value)
		if e != api.OK {
			s = "error " + e.Error()
		}
		b.WriteString(x.Var + "[" + s + "]")
	}
	return b.String()
}

func textsOf(l [][]api.Binding) string {
	var texts []string
	for _, m := range l {
		texts = append(texts, textOf(m))
	}
	return strings.Join(texts, " | ")
}

// nested returns groups within each other.
func nested(depth int) []api.Term {
	var l []api.Term
	for range depth {
		l = []api.Term{{Kind: api.Group, Kids: l}}
	}
	return l
}

var matchCases = []struct {
	pattern, value string
	given          []string
	want           string // the matches, with " | " between two; "none"
}{
	{"", "", nil, ""},
	{"", "'a'", nil, "none"},
	{"'a'", "", nil, "none"},
	{"'a' W 3 (x)", "'a' W 3 (x)", nil, ""},
	{"'a'", "a", nil, "none"},
	{"a", "'a'", nil, "none"},
	{"'1'", "1", nil, "none"},
	{"'a'", "'b'", nil, "none"},
	{"()", "()", nil, ""},
	{"()", "('a')", nil, "none"},
	{"('a')", "()", nil, "none"},
	{"('a')", "'a'", nil, "none"},
	{"'a'", "('a')", nil, "none"},
	{"('a') 'b'", "('ab')", nil, "none"},
	{"('ab')", "('a') 'b'", nil, "none"},
	{"(('a'))", "(('a'))", nil, ""},
	{"(()) ()", "() (())", nil, "none"},

	{"s.1", "'a'", nil, "s.1['a']"},
	{"s.1", "W", nil, "s.1[W]"},
	{"s.1", "-7", nil, "s.1[-7]"},
	{"s.1", "()", nil, "none"},
	{"s.1", "", nil, "none"},
	{"s.1", "'ab'", nil, "none"},
	{"s.1 s.1", "'aa'", nil, "s.1['a']"},
	{"s.1 s.1", "'ab'", nil, "none"},
	{"s.1 s.1", "'1' 1", nil, "none"},
	{"s.1 s.2", "'aa'", nil, "s.1['a'] s.2['a']"},
	{"t.1", "'a'", nil, "t.1['a']"},
	{"t.1", "(a (b))", nil, "t.1[(a (b))]"},
	{"t.1", "", nil, "none"},
	{"(t.1)", "()", nil, "none"},
	{"t.1", "() ()", nil, "none"},
	{"t.1 t.1", "(a (b)) (a (b))", nil, "t.1[(a (b))]"},
	{"t.1 t.1", "(a (b)) (a (c))", nil, "none"},
	{"t.1 t.1", "(a) a", nil, "none"},
	{"s.1 t.1 e.1", "a a a", nil, "s.1[a] t.1[a] e.1[a]"},

	{"e.1", "", nil, "e.1[]"},
	{"e.1", "'a' (b) c", nil, "e.1['a' (b) c]"},
	{"e.1 s.2 e.3", "'ab'", nil, "e.1[] s.2['a'] e.3['b'] | e.1['a'] s.2['b'] e.3[]"},
	{"e.1 e.1", "'abab'", nil, "e.1['ab']"},
	{"e.1 e.1", "", nil, "e.1[]"},
	{"e.1 e.1", "'aba'", nil, "none"},
	{"e.1 (e.1)", "'a' ('a')", nil, "e.1['a']"},
	{"e.1 (e.1)", "'ab' ('a')", nil, "none"},
	{"(e.1) e.2", "('a') 'b'", nil, "e.1['a'] e.2['b']"},
	{"e.1 (e.2) e.3", "(a) (b)", nil, "e.1[] e.2[a] e.3[(b)] | e.1[(a)] e.2[b] e.3[]"},
	{"(e.1 e.2) e.3", "('a') b", nil, "e.1[] e.2['a'] e.3[b] | e.1['a'] e.2[] e.3[b]"},
	{"e.1 'b' e.2", "'abcb'", nil, "e.1['a'] e.2['cb'] | e.1['abc'] e.2[]"},
	{"e.1 'b'", "'bab'", nil, "e.1['ba'] "},
	{"e.1 e.2 e.3", "'a'", nil, "e.1[] e.2[] e.3['a'] | e.1[] e.2['a'] e.3[] | e.1['a'] e.2[] e.3[]"},
	{"e.2 e.1 e.2", "'aa'", nil, "e.2[] e.1['aa'] | e.2['a'] e.1[]"},
	{"e.1 s.x e.2 s.x e.3", "'abcbca'", nil, "e.1[] s.x['a'] e.2['bcbc'] e.3[] | e.1['a'] s.x['b'] e.2['c'] e.3['ca'] | e.1['ab'] s.x['c'] e.2['b'] e.3['a']"},
	{"e.1 t.x e.2 t.x e.3", "() (a) (a) ()", nil, "e.1[] t.x[()] e.2[(a) (a)] e.3[] | e.1[()] t.x[(a)] e.2[] e.3[()]"},
	{"(e.1 (e.2)) e.1", "(a (b)) a", nil, "e.1[a] e.2[b]"},
	{"s.1 e.2 s.1", "'a'", nil, "none"},
	{"s.1 e.2 s.1", "'aba'", nil, "s.1['a'] e.2['b']"},
	{"(e.1) (e.1)", "(a b) (a (b))", nil, "none"},

	{"e.1", "'ab'", []string{"e.1", "'ab'"}, ""},
	{"e.1", "'ab'", []string{"e.1", "'a'"}, "none"},
	{"e.1 e.2", "'ab'", []string{"e.1", "'a'"}, "e.2['b']"},
	{"e.1 e.2", "'ab'", []string{"e.2", "'b'"}, "e.1['a']"},
	{"e.1 e.2", "'ab'", []string{"e.2", ""}, "e.1['ab']"},
	{"e.1 e.2", "(x) y", []string{"e.1", "(x)"}, "e.2[y]"},
	{"e.1 e.2", "(x y)", []string{"e.1", "(x)"}, "none"},
	{"s.1 t.2", "a (b)", []string{"s.1", "a", "t.2", "(b)"}, ""},
	{"s.1 t.2", "a (b)", []string{"s.1", "b"}, "none"},
	{"s.1 t.2", "a (b)", []string{"t.2", "b"}, "none"},
	{"e.1", "'a'", []string{"e.2", "'b'", "s.1", "'c'", "t.1", "(d)"}, "e.1['a']"},
	{"e.2 e.1", "'ab'", []string{"e.3", "'b'"}, "e.2[] e.1['ab'] | e.2['a'] e.1['b'] | e.2['ab'] e.1[]"},
	{"(e.1) e.2", "() 'b'", []string{"e.1", "x"}, "none"},
}

func TestMatches(t *testing.T) {
	for _, c := range matchCases {
		name := c.pattern + " with " + c.value + " where " + strings.Join(c.given, " is ")
		pattern, value, given := parsed(t, c.pattern), parsed(t, c.value), bindings(t, c.given...)
		all, e := match.All(pattern, value, given, 1000)
		want := strings.TrimSpace(c.want)
		wanted := strings.Split(want, " | ")
		if want == "none" {
			want, wanted = "", nil
		}
		if textsOf(all) != want || len(all) != len(wanted) || e != api.OK {
			t.Errorf("%s: All = %s (%d), %v, want %s", name, textsOf(all), len(all), e, want)
		}
		if n, e := match.Count(pattern, value, given); n != len(wanted) || e != api.OK {
			t.Errorf("%s: Count = %d, %v", name, n, e)
		}
		first, e := match.First(pattern, value, given)
		if wanted == nil {
			if e != api.ErrMissing || len(first) != 0 {
				t.Errorf("%s: First = %s, %v", name, textOf(first), e)
			}
		} else if textOf(first) != wanted[0] || e != api.OK {
			t.Errorf("%s: First = %s, %v", name, textOf(first), e)
		}
	}
}

func TestCode(t *testing.T) {
	if match.ErrBinding != 80 {
		t.Errorf("ErrBinding is %d", int(match.ErrBinding))
	}
}

func TestBindings(t *testing.T) {
	many := make([]api.Binding, 4001)
	for i := range many {
		many[i].Var = "e." + strconv.Itoa(i)
	}
	bad := []api.Term{{Kind: api.Number, Text: "01"}}
	variable := []api.Term{{Kind: api.SVar, Text: "1"}}
	call := []api.Term{{Kind: api.Call, Text: "F"}}
	for _, c := range []struct {
		name string
		l    []api.Binding
		want api.Errno
	}{
		{"none", nil, api.OK},
		{"all kinds", bindings(t, "s.1", "a", "t.1", "(a (b))", "e.1", "a () 'b'", "e.2", "", "t.2", "1"), api.OK},
		{"a longest name", bindings(t, "s."+long("v", 40), "a"), api.OK},
		{"a name too long", bindings(t, "s."+long("v", 41), "a"), match.ErrBinding},
		{"no name", bindings(t, "e.", "a"), match.ErrBinding},
		{"an empty variable", bindings(t, "", "a"), match.ErrBinding},
		{"no kind", bindings(t, "x.1", "a"), match.ErrBinding},
		{"no point", bindings(t, "s1", "a"), match.ErrBinding},
		{"a large kind", bindings(t, "S.1", "a"), match.ErrBinding},
		{"a wrong byte", bindings(t, "s.a-b", "a"), match.ErrBinding},
		{"a space", bindings(t, "s.a ", "a"), match.ErrBinding},
		{"a name twice", bindings(t, "e.1", "a", "e.2", "", "e.1", "b"), api.ErrDuplicate},
		{"names of other kinds", bindings(t, "e.1", "a", "s.1", "a", "t.1", "b"), api.OK},
		{"a name that is none twice", bindings(t, "e.", "", "e.", ""), match.ErrBinding},
		{"a name twice ahead of its value", append(bindings(t, "e.1", ""), api.Binding{Var: "e.1", Value: bad}), api.ErrDuplicate},
		{"a name that is none ahead of its value", []api.Binding{{Var: "e", Value: bad}}, match.ErrBinding},
		{"a value that is none", []api.Binding{{Var: "e.1", Value: bad}}, api.ErrForm},
		{"a value with a variable", []api.Binding{{Var: "s.1", Value: variable}}, api.ErrForm},
		{"a value with a call", []api.Binding{{Var: "e.1", Value: call}}, api.ErrForm},
		{"a value too large", []api.Binding{{Var: "s.1", Value: term.Chars(long("a", 4001))}}, api.ErrCount},
		{"a value too deep", []api.Binding{{Var: "s.1", Value: nested(101)}}, api.ErrDepth},
		{"the value ahead of the kind", []api.Binding{{Var: "s.1", Value: append(bad, bad...)}}, api.ErrForm},
		{"no symbol", bindings(t, "s.1", ""), match.ErrBinding},
		{"two symbols", bindings(t, "s.1", "'ab'"), match.ErrBinding},
		{"a group for a symbol", bindings(t, "s.1", "()"), match.ErrBinding},
		{"no term", bindings(t, "t.1", ""), match.ErrBinding},
		{"two terms", bindings(t, "t.1", "() a"), match.ErrBinding},
		{"the first error", bindings(t, "s.1", "()", "x", ""), match.ErrBinding},
		{"the first binding", append(bindings(t, "e.1", "", "e.1", ""), api.Binding{Var: "e.2", Value: bad}), api.ErrDuplicate},
		{"as many as may be", many[:4000], api.OK},
		{"too many", many, api.ErrCount},
		{"too many wrong ones", make([]api.Binding, 4001), api.ErrCount},
	} {
		if e := match.Bindings(c.l); e != c.want {
			t.Errorf("%s: Bindings = %v, want %v", c.name, e, c.want)
		}
		first, e := match.First(parsed(t, "e.new"), parsed(t, "'a'"), c.l)
		if want := "e.new['a']"; e != c.want || e == api.OK && textOf(first) != want || e != api.OK && len(first) != 0 {
			t.Errorf("%s: First = %s, %v, want %v", c.name, textOf(first), e, c.want)
		}
	}
}

// TestErrorOrder has wrong arguments of which the first one decides.
func TestErrorOrder(t *testing.T) {
	ok, wrong := parsed(t, "e.1"), []api.Term{{Kind: api.Word}}
	value, large := parsed(t, "'a'"), term.Chars(long("a", 4001))
	twice := bindings(t, "e.1", "", "e.1", "")
	for _, c := range []struct {
		name           string
		pattern, value []api.Term
		given          []api.Binding
		most           int
		want           api.Errno
	}{
		{"all is right", ok, value, nil, 0, api.OK},
		{"as many as may be", ok, value, nil, 1000, api.OK},
		{"a pattern with a call", parsed(t, "<F>"), value, nil, 1, api.ErrForm},
		{"a call within a group", parsed(t, "(<F>)"), value, nil, 1, api.ErrForm},
		{"a pattern that is none", wrong, large, twice, -1, api.ErrForm},
		{"a pattern too large", large, wrong, twice, -1, api.ErrCount},
		{"a pattern too deep", nested(101), wrong, twice, -1, api.ErrDepth},
		{"a value too large", ok, large, twice, -1, api.ErrCount},
		{"a value with a variable", ok, ok, twice, -1, api.ErrForm},
		{"a value too deep", ok, nested(101), twice, -1, api.ErrDepth},
		{"given twice", ok, value, twice, -1, api.ErrDuplicate},
		{"fewer than none", ok, value, nil, -1, api.ErrRange},
		{"too many asked for", ok, value, nil, 1001, api.ErrRange},
		{"too many asked for, and no match", parsed(t, "'b'"), value, nil, 1001, api.ErrRange},
	} {
		all, e := match.All(c.pattern, c.value, c.given, c.most)
		if e != c.want || e != api.OK && len(all) != 0 {
			t.Errorf("%s: All = %s, %v, want %v", c.name, textsOf(all), e, c.want)
		}
		want := c.want
		if want == api.ErrRange { // the others have no such parameter
			continue
		}
		if first, e := match.First(c.pattern, c.value, c.given); e != want || e != api.OK && len(first) != 0 {
			t.Errorf("%s: First = %s, %v, want %v", c.name, textOf(first), e, want)
		}
		if n, e := match.Count(c.pattern, c.value, c.given); e != want || e != api.OK && n != 0 {
			t.Errorf("%s: Count = %d, %v, want %v", c.name, n, e, want)
		}
	}
}

func TestMost(t *testing.T) {
	pattern, value := parsed(t, "e.1 e.2"), term.Chars(long("a", 999))
	for _, most := range []int{0, 1, 2, 999, 1000} {
		all, e := match.All(pattern, value, nil, most)
		if len(all) != most || e != api.OK {
			t.Fatalf("All of %d = %d, %v", most, len(all), e)
		}
		for i, m := range all {
			if l := match.Lengths(m); !slices.Equal(l, []int{i, 999 - i}) {
				t.Fatalf("match %d of %d has the lengths %v", i, most, l)
			}
		}
	}
	if all, e := match.All(parsed(t, "s.1 s.1"), parsed(t, "'ab'"), nil, 0); len(all) != 0 || e != api.OK {
		t.Errorf("All of none = %v, %v", all, e)
	}
}

func TestCount(t *testing.T) {
	for _, c := range []struct {
		pattern string
		size    int
		count   int
		want    api.Errno
	}{
		{"e.1", 4000, 1, api.OK},
		{"e.1 e.2", 998, 999, api.OK},
		{"e.1 e.2", 999, 1000, api.OK},
		{"e.1 e.2", 1000, 0, api.ErrLarge},
		{"e.1 e.2", 4000, 0, api.ErrLarge},
		{"e.1 s.2 e.3", 1000, 1000, api.OK},
		{"e.1 s.2 e.3", 1001, 0, api.ErrLarge},
		{"e.1 e.2 e.3 e.4 e.5 e.6 e.7 e.8 e.9", 4000, 0, api.ErrLarge},
		{"e.1 e.2 'b'", 4000, 0, api.OK},
	} {
		n, e := match.Count(parsed(t, c.pattern), term.Chars(long("a", c.size)), nil)
		if n != c.count || e != c.want {
			t.Errorf("Count of %s with %d terms = %d, %v, want %d, %v", c.pattern, c.size, n, e, c.count, c.want)
		}
	}
}

func TestLengths(t *testing.T) {
	odd := []api.Term{{Kind: 99}, {Kind: -1}}
	for _, c := range []struct {
		name string
		l    []api.Binding
		want []int
	}{
		{"none", nil, nil},
		{"all kinds", bindings(t, "s.1", "a", "e.1", "a (b c)", "t.1", "(a)", "e.2", ""), []int{2, 0}},
		{"any ones", []api.Binding{{Var: "e", Value: odd}, {Var: ""}, {Var: "excellent", Value: odd[:1]}, {Var: "se.1", Value: odd}, {Var: "E.1"}, {Var: "e"}}, []int{2, 1, 0}},
	} {
		if got := match.Lengths(c.l); !slices.Equal(got, c.want) {
			t.Errorf("%s: Lengths = %v, want %v", c.name, got, c.want)
		}
	}
}

func TestFind(t *testing.T) {
	l := append(bindings(t, "e.1", "a", "s.1", "b", "e.1", "c", "e.2", "", "t.1", "(d)"), api.Binding{Var: "", Value: parsed(t, "x")})
	for _, c := range []struct {
		name, want string
		ok         bool
	}{
		{"e.1", "a", true}, {"s.1", "b", true}, {"e.2", "", true}, {"t.1", "(d)", true}, {"", "x", true},
		{"e.3", "", false}, {"e", "", false}, {"e.", "", false}, {"t.2", "", false},
	} {
		v, ok := match.Find(l, c.name)
		if s, _ := term.Text(v); s != c.want || ok != c.ok || !ok && len(v) != 0 {
			t.Errorf("Find(%q) = %s, %v", c.name, s, ok)
		}
	}
	if v, ok := match.Find(nil, "e.1"); ok || len(v) != 0 {
		t.Errorf("Find of nothing = %v, %v", v, ok)
	}
}

// TestNothingIsChanged matches with arguments that have memory behind their ends.
func TestNothingIsChanged(t *testing.T) {
	pattern, value, given := parsed(t, "e.1 (e.2 s.3) e.1 t.4 e.5"), parsed(t, "'ab' ('cd') 'ab' (x) 'y'"), bindings(t, "e.5", "'y'")
	spare := append(slices.Clone(value), parsed(t, "behind")...)
	texts := func() string {
		p, _ := term.Text(pattern)
		v, _ := term.Text(spare)
		return p + v + textOf(given)
	}
	before := texts()
	all, _ := match.All(pattern, spare[:len(value)], given, 10)
	if textsOf(all) != "e.1['ab'] e.2['c'] s.3['d'] t.4[(x)]" {
		t.Fatalf("All = %s", textsOf(all))
	}
	first, _ := match.First(pattern, value, given)
	for _, m := range append(all, first) {
		for i := range m {
			for j := range m[i].Value {
				m[i].Value[j].Text = "changed"
				for k := range m[i].Value[j].Kids {
					m[i].Value[j].Kids[k].Text = "changed"
				}
			}
			m[i].Value = append(m[i].Value, api.Term{Kind: api.Word, Text: "more"})
		}
	}
	if texts() != before {
		t.Errorf("the arguments were %s and are %s", before, texts())
	}
}
