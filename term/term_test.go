package term

import (
	"math/rand"
	"slices"
	"strings"
	"testing"

	"chiasmus/api"
)

// one returns an expression of one term.
func one(kind int, text string, kids ...api.Term) []api.Term {
	return []api.Term{{Kind: kind, Text: text, Kids: kids}}
}

// nested returns groups within each other.
func nested(depth int) []api.Term {
	var l []api.Term
	for range depth {
		l = one(api.Group, "", l...)
	}
	return l
}

func parsed(t *testing.T, s string) []api.Term {
	t.Helper()
	l, at, e := Parse(s)
	if e != api.OK {
		t.Fatalf("Parse(%q) = %d, %v", s, at, e)
	}
	return l
}

// generator makes expressions; its numbers are the same in each run.
type generator struct{ *rand.Rand }

func newGenerator(seed int64) generator { return generator{rand.New(rand.NewSource(seed))} }

// result returns a right expression of kinds up to last.
func (g generator) result(last, depth int) []api.Term {
	var l []api.Term
	for range g.Intn(5) {
		l = append(l, g.term(last, depth))
	}
	return l
}

func (g generator) term(last, depth int) api.Term {
	kind := 1 + g.Intn(last)
	if depth == 0 && (kind == api.Group || kind == api.Call) {
		kind = api.Char
	}
	switch kind {
	case api.Char:
		return api.Term{Kind: kind, Text: string([]byte{byte(g.Intn(256))})}
	case api.Word:
		b := make([]byte, 1+g.Intn(4))
		for i := range b {
			b[i] = "ab_-9 \"\\'.(~"[g.Intn(12)]
		}
		return api.Term{Kind: kind, Text: string(b)}
	case api.Number:
		return api.Term{Kind: kind, Text: []string{"0", "7", "-7", "10", "-305"}[g.Intn(5)]}
	case api.Group:
		return api.Term{Kind: kind, Kids: g.result(last, depth-1)}
	case api.Call:
		return api.Term{Kind: kind, Text: []string{"F", "g_1", "a-b"}[g.Intn(3)], Kids: g.result(last, depth-1)}
	}
	return api.Term{Kind: kind, Text: []string{"1", "x", "x1Y"}[g.Intn(3)]}
}

// any returns an expression that may be nothing right.
func (g generator) any(depth int) []api.Term {
	var l []api.Term
	for range g.Intn(4) {
		t := api.Term{Kind: g.Intn(12) - 2, Text: []string{"", "a", "ab", "-0", "01", "F", "\n", "s.x", "."}[g.Intn(9)]}
		if depth > 0 && g.Intn(2) == 0 {
			t.Kids = g.any(depth - 1)
		}
		l = append(l, t)
	}
	return l
}

func TestRightTerms(t *testing.T) {
	kid := api.Term{Kind: api.Char, Text: "a"}
	long := strings.Repeat
	for _, c := range []struct {
		name string
		term api.Term
		ok   bool
	}{
		{"char", api.Term{Kind: api.Char, Text: "a"}, true},
		{"char of any byte", api.Term{Kind: api.Char, Text: "\xff"}, true},
		{"char without a byte", api.Term{Kind: api.Char}, false},
		{"char of two bytes", api.Term{Kind: api.Char, Text: "ab"}, false},
		{"char with kids", api.Term{Kind: api.Char, Text: "a", Kids: []api.Term{kid}}, false},
		{"char with empty kids", api.Term{Kind: api.Char, Text: "a", Kids: []api.Term{}}, true},
		{"word", api.Term{Kind: api.Word, Text: " ~"}, true},
		{"empty word", api.Term{Kind: api.Word}, false},
		{"longest word", api.Term{Kind: api.Word, Text: long("w", 60)}, true},
		{"too long word", api.Term{Kind: api.Word, Text: long("w", 61)}, false},
		{"word with byte 31", api.Term{Kind: api.Word, Text: "a\x1f"}, false},
		{"word with byte 127", api.Term{Kind: api.Word, Text: "a\x7f"}, false},
		{"word with kids", api.Term{Kind: api.Word, Text: "a", Kids: []api.Term{kid}}, false},
		{"zero", api.Term{Kind: api.Number, Text: "0"}, true},
		{"number", api.Term{Kind: api.Number, Text: "90"}, true},
		{"number below zero", api.Term{Kind: api.Number, Text: "-90"}, true},
		{"longest number", api.Term{Kind: api.Number, Text: "-" + long("9", 500)}, true},
		{"too long number", api.Term{Kind: api.Number, Text: long("9", 501)}, false},
		{"minus zero", api.Term{Kind: api.Number, Text: "-0"}, false},
		{"leading zero", api.Term{Kind: api.Number, Text: "01"}, false},
		{"leading zero below zero", api.Term{Kind: api.Number, Text: "-01"}, false},
		{"two zeros", api.Term{Kind: api.Number, Text: "00"}, false},
		{"plus", api.Term{Kind: api.Number, Text: "+1"}, false},
		{"minus alone", api.Term{Kind: api.Number, Text: "-"}, false},
		{"two minus", api.Term{Kind: api.Number, Text: "--1"}, false},
		{"no digits", api.Term{Kind: api.Number}, false},
		{"letter in a number", api.Term{Kind: api.Number, Text: "1a"}, false},
		{"number with kids", api.Term{Kind: api.Number, Text: "1", Kids: []api.Term{kid}}, false},
		{"group", api.Term{Kind: api.Group, Kids: []api.Term{kid}}, true},
		{"empty group", api.Term{Kind: api.Group}, true},
		{"group with text", api.Term{Kind: api.Group, Text: "g"}, false},
		{"kind 0", api.Term{Kind: 0, Text: "a"}, false},
		{"kind 9", api.Term{Kind: 9, Text: "a"}, false},
		{"kind below 0", api.Term{Kind: -1, Text: "a"}, false},
		{"wrong kid", api.Term{Kind: api.Group, Kids: []api.Term{{Kind: api.Char}}}, false},
	} {
		want := api.OK
		if !c.ok {
			want = api.ErrForm
		}
		l := []api.Term{c.term}
		if Value(l) != want || Pattern(l) != want || Result(l) != want {
			t.Errorf("%s: Value %v, Pattern %v, Result %v", c.name, Value(l), Pattern(l), Result(l))
		}
	}
}

func TestRightVariables(t *testing.T) {
	for _, kind := range []int{api.SVar, api.TVar, api.EVar} {
		for text, ok := range map[string]bool{"1": true, "aZ9": true, strings.Repeat("v", 40): true, strings.Repeat("v", 41): false,
			"": false, "a-b": false, "a_b": false, "a.b": false, "é": false} {
			l := one(kind, text)
			want := api.OK
			if !ok {
				want = api.ErrForm
			}
			if Value(l) != api.ErrForm || Pattern(l) != want || Result(l) != want {
				t.Errorf("variable %d %q: Value %v, Pattern %v, Result %v", kind, text, Value(l), Pattern(l), Result(l))
			}
		}
		if Pattern(one(kind, "x", one(api.Char, "a")...)) != api.ErrForm {
			t.Errorf("variable %d with kids", kind)
		}
	}
}

func TestRightCalls(t *testing.T) {
	for text, ok := range map[string]bool{"F": true, "f-1_Z": true, strings.Repeat("f", 40): true, strings.Repeat("f", 41): false,
		"": false, "1F": false, "-F": false, "_F": false, "F.": false, "F G": false} {
		l := one(api.Call, text, one(api.EVar, "x")...)
		want := api.OK
		if !ok {
			want = api.ErrForm
		}
		if Value(l) != api.ErrForm || Pattern(l) != api.ErrForm || Result(l) != want {
			t.Errorf("call %q: Value %v, Pattern %v, Result %v", text, Value(l), Pattern(l), Result(l))
		}
	}
	deep := one(api.Group, "", one(api.Group, "", one(api.Call, "F")...)...)
	if Value(deep) != api.ErrForm || Pattern(deep) != api.ErrForm || Result(deep) != api.OK {
		t.Error("a call within groups")
	}
	if within := one(api.Group, "", one(api.EVar, "x")...); Value(within) != api.ErrForm || Pattern(within) != api.OK {
		t.Error("a variable within a group")
	}
}

func TestLimits(t *testing.T) {
	full := Chars(strings.Repeat("a", api.MaxNodes))
	inGroup := one(api.Group, "", full[1:]...)
	wrong := one(api.Number, "x")
	for _, c := range []struct {
		name string
		l    []api.Term
		want api.Errno
	}{
		{"nothing", nil, api.OK},
		{"as many nodes as may be", full, api.OK},
		{"a node too many", append(slices.Clone(full), full[0]), api.ErrCount},
		{"nodes within a group", inGroup, api.OK},
		{"a node too many within a group", one(api.Group, "", full...), api.ErrCount},
		{"as deep as may be", nested(api.MaxDepth), api.OK},
		{"too deep", nested(api.MaxDepth + 1), api.ErrDepth},
		{"calls too deep", one(api.Call, "F", nested(api.MaxDepth)...), api.ErrDepth},
		{"the kids of a symbol count as depth", one(api.Char, "a", nested(api.MaxDepth)...), api.ErrDepth},
		{"count ahead of form", append(slices.Clone(wrong), full...), api.ErrCount},
		{"depth ahead of form", append(slices.Clone(wrong), nested(api.MaxDepth+1)...), api.ErrDepth},
		{"count ahead of depth", append(nested(api.MaxDepth+1), full...), api.ErrCount},
		{"very deep", nested(60000), api.ErrCount},
	} {
		if e := Result(c.l); e != c.want {
			t.Errorf("%s: Result = %v, want %v", c.name, e, c.want)
		}
	}
	// A call within a value is a depth as any other.
	if Value(one(api.Call, "F", nested(api.MaxDepth)...)) != api.ErrDepth {
		t.Error("Value of calls too deep")
	}
}

func TestSharedTermsEndEarly(t *testing.T) {
	l := one(api.Group, "")
	for range 200 {
		l = []api.Term{{Kind: api.Group, Kids: l}, {Kind: api.Group, Kids: l}}
	}
	if Value(l) != api.ErrCount || Pattern(l) != api.ErrCount || Result(l) != api.ErrCount {
		t.Error("an expression of more terms than can be walked")
	}
	if _, e := Text(l); e != api.ErrCount {
		t.Errorf("Text = %v", e)
	}
}

func TestSize(t *testing.T) {
	for _, c := range []struct {
		l            []api.Term
		nodes, depth int
	}{
		{nil, 0, 0},
		{one(api.Char, "a"), 1, 0},
		{one(api.Group, ""), 1, 1},
		{one(api.Call, "F"), 1, 1},
		{one(api.EVar, "x"), 1, 0},
		{one(api.EVar, "x", one(api.Char, "a")...), 2, 1},
		{one(99, "x", one(api.Char, "a")...), 2, 1},
		{append(one(api.Group, "", one(api.Call, "F", one(api.Char, "a")...)...), one(api.Group, "")...), 4, 2},
		{append(one(api.Group, ""), one(api.Group, "", one(api.Group, "")...)...), 3, 2},
		{nested(60000), 60000, 60000},
	} {
		if n, d := Size(c.l); n != c.nodes || d != c.depth {
			t.Errorf("Size = %d, %d, want %d, %d", n, d, c.nodes, c.depth)
		}
	}
}

func TestCompare(t *testing.T) {
	ascending := [][]api.Term{
		nil,
		one(-1, "z"),
		one(0, ""),
		one(api.Char, "A"),
		one(api.Char, "a"),
		append(one(api.Char, "a"), one(api.Char, "A")...),
		append(one(api.Char, "a"), one(api.Char, "b")...),
		one(api.Char, "a", one(api.Char, "a")...),
		one(api.Char, "\xe9"),
		one(api.Word, "a"),
		one(api.Word, "ab"),
		one(api.Word, "b"),
		one(api.Number, "10"),
		one(api.Number, "9"),
		one(api.Group, ""),
		append(one(api.Group, ""), one(api.Char, "a")...),
		one(api.Group, "", one(api.Char, "a")...),
		one(api.Group, "", append(one(api.Char, "a"), one(api.Char, "a")...)...),
		one(api.Group, "", one(api.Char, "b")...),
		one(api.SVar, "z"),
		one(api.TVar, "y"),
		one(api.EVar, "x"),
		one(api.Call, "F"),
		one(99, ""),
	}
	for i, a := range ascending {
		for j, b := range ascending {
			want := min(max(i-j, -1), 1)
			if c := Compare(a, b); c != want {
				t.Errorf("Compare(%d, %d) = %d, want %d", i, j, c, want)
			}
			if Equal(a, b) != (i == j) {
				t.Errorf("Equal(%d, %d) = %v", i, j, Equal(a, b))
			}
		}
	}
	empty := []api.Term{{Kind: api.Group, Kids: []api.Term{}}}
	if !Equal(empty, one(api.Group, "")) || Compare(empty, one(api.Group, "")) != 0 || !Equal(nil, []api.Term{}) {
		t.Error("no Kids are empty ones")
	}
}

func TestOrderOfAny(t *testing.T) {
	g := newGenerator(1)
	for range 3000 {
		a, b, c := g.any(3), g.any(3), g.any(3)
		if Compare(a, b) != -Compare(b, a) || (Compare(a, b) == 0) != Equal(a, b) {
			t.Fatalf("Compare of %v and %v", a, b)
		}
		if Compare(a, b) <= 0 && Compare(b, c) <= 0 && Compare(a, c) > 0 {
			t.Fatalf("Compare of %v, %v and %v", a, b, c)
		}
		for i := range a {
			if Compare(a, a[:i]) != 1 {
				t.Fatalf("%v is less than its beginning", a)
			}
		}
	}
}

func TestCopy(t *testing.T) {
	l := parsed(t, "(a (b)) <F 'c'>")
	c := Copy(l)
	if !Equal(l, c) {
		t.Fatalf("Copy = %v", c)
	}
	c[0].Kids[1].Kids[0].Text = "other"
	c[1].Kids[0] = c[0]
	c[0].Text = "x"
	if s, _ := Text(l); s != "(a (b)) <F 'c'>" {
		t.Errorf("the copied expression is %s now", s)
	}
	if len(Copy(nil)) != 0 {
		t.Error("Copy of nothing")
	}
}

func TestKinds(t *testing.T) {
	for kind := -1; kind < 11; kind++ {
		symbol := kind == api.Char || kind == api.Word || kind == api.Number
		name := map[int]string{api.SVar: "s.%", api.TVar: "t.%", api.EVar: "e.%"}[kind]
		u := api.Term{Kind: kind, Text: "%"}
		if IsSymbol(u) != symbol || IsVariable(u) != (name != "") || Name(u) != name {
			t.Errorf("kind %d: %v, %v, %q", kind, IsSymbol(u), IsVariable(u), Name(u))
		}
	}
}

func TestVariable(t *testing.T) {
	for name, want := range map[string]api.Term{
		"s.1": {Kind: api.SVar, Text: "1"}, "t.x": {Kind: api.TVar, Text: "x"}, "e.Ab9": {Kind: api.EVar, Text: "Ab9"},
		"e." + strings.Repeat("v", 40): {Kind: api.EVar, Text: strings.Repeat("v", 40)},
	} {
		if v, ok := Variable(name); !ok || !Equal([]api.Term{v}, []api.Term{want}) {
			t.Errorf("Variable(%q) = %v, %v", name, v, ok)
		}
	}
	for _, name := range []string{"", "s", "s.", "x.1", "s1", "S.1", "s.a-b", "s.a b", " s.a", "e." + strings.Repeat("v", 41)} {
		if v, ok := Variable(name); ok || v.Kind != 0 || v.Text != "" {
			t.Errorf("Variable(%q) = %v, %v", name, v, ok)
		}
	}
}

func TestVariables(t *testing.T) {
	l := parsed(t, "s.b (e.1 <F t.b s.b>) e.1 s.1 t.b")
	if v := Variables(l); !slices.Equal(v, []string{"s.b", "e.1", "t.b", "s.1"}) {
		t.Errorf("Variables = %v", v)
	}
	wrong := one(api.EVar, "", one(api.SVar, "x")...)
	if v := Variables(wrong); !slices.Equal(v, []string{"e.", "s.x"}) {
		t.Errorf("Variables of what is no pattern = %v", v)
	}
	if v := Variables(Chars("abc")); len(v) != 0 {
		t.Errorf("Variables of characters = %v", v)
	}
}

func TestCalls(t *testing.T) {
	for s, want := range map[string]bool{"": false, "a (b e.1)": false, "<F>": true, "a (b (<F>))": true} {
		if Calls(parsed(t, s)) != want {
			t.Errorf("Calls(%q)", s)
		}
	}
	if !Calls(one(api.Char, "a", one(api.Call, "")...)) {
		t.Error("Calls of a call that is not right")
	}
}

func TestStrings(t *testing.T) {
	for _, s := range []string{"", "a", "ab\x00\xff'"} {
		l := Chars(s)
		if len(l) != len(s) || Value(l) != api.OK {
			t.Errorf("Chars(%q) = %v", s, l)
		}
		if back, ok := String(l); back != s || !ok {
			t.Errorf("String = %q, %v, want %q", back, ok, s)
		}
	}
	for _, l := range [][]api.Term{one(api.Word, "a"), one(api.Char, "ab"), one(api.Char, ""), one(api.Char, "a", one(api.Char, "a")...),
		append(Chars("a"), api.Term{Kind: api.Group})} {
		if s, ok := String(l); ok || s != "" {
			t.Errorf("String(%v) = %q, %v", l, s, ok)
		}
	}
}

func TestAt(t *testing.T) {
	l := parsed(t, "a (b <F c>) d")
	for _, c := range []struct {
		path []int
		want string
	}{
		{[]int{0}, "a"}, {[]int{1}, "(b <F c>)"}, {[]int{1, 0}, "b"}, {[]int{1, 1}, "<F c>"}, {[]int{1, 1, 0}, "c"}, {[]int{2}, "d"},
		{nil, "none"}, {[]int{}, "none"}, {[]int{3}, "none"}, {[]int{-1}, "none"}, {[]int{0, 0}, "none"}, {[]int{1, 2}, "none"},
		{[]int{1, -1}, "none"}, {[]int{1, 1, 1}, "none"}, {[]int{1, 1, 0, 0}, "none"}, {[]int{5, 0}, "none"},
	} {
		u, ok := At(l, c.path)
		if s, _ := Text([]api.Term{u}); ok && s != c.want || ok != (c.want != "none") || !ok && !Equal([]api.Term{u}, []api.Term{{}}) {
			t.Errorf("At(%v) = %v, %v, want %s", c.path, u, ok, c.want)
		}
		if _, put := Put(l, c.path, nil); put != ok {
			t.Errorf("Put(%v) = %v", c.path, put)
		}
	}
}

func TestAtSharesNoMemory(t *testing.T) {
	l := parsed(t, "(a (b))")
	u, _ := At(l, []int{0})
	u.Kids[1].Kids[0].Text = "changed"
	if s, _ := Text(l); s != "(a (b))" {
		t.Errorf("the expression is %s now", s)
	}
}

func TestPut(t *testing.T) {
	for _, c := range []struct {
		path     []int
		by, want string
	}{
		{[]int{0}, "x", "x (b <F c>) d"},
		{[]int{0}, "", "(b <F c>) d"},
		{[]int{2}, "x y", "a (b <F c>) x y"},
		{[]int{1}, "(x)", "a (x) d"},
		{[]int{1, 0}, "", "a (<F c>) d"},
		{[]int{1, 1, 0}, "x y z", "a (b <F x y z>) d"},
		{[]int{1, 1, 0}, "", "a (b <F>) d"},
	} {
		l, by := parsed(t, "a (b <F c>) d"), parsed(t, c.by)
		m, ok := Put(l, c.path, by)
		if s, _ := Text(m); !ok || s != c.want {
			t.Errorf("Put(%v, %s) = %s, %v", c.path, c.by, s, ok)
		}
		if s, _ := Text(l); s != "a (b <F c>) d" {
			t.Errorf("Put(%v, %s) changed its argument: %s", c.path, c.by, s)
		}
		for i := range m {
			m[i].Text = "changed"
			for j := range m[i].Kids {
				m[i].Kids[j].Text = "changed"
			}
		}
		if s, _ := Text(l); s != "a (b <F c>) d" || !Equal(by, parsed(t, c.by)) {
			t.Errorf("the result of Put(%v, %s) shares memory", c.path, c.by)
		}
	}
	if m, ok := Put(parsed(t, "a"), []int{1}, parsed(t, "b")); ok || len(m) != 0 {
		t.Errorf("Put beyond the end = %v, %v", m, ok)
	}
}

// paths calls a function with each path of an expression.
func paths(l []api.Term, ahead []int, f func([]int)) {
	for i, t := range l {
		path := append(slices.Clone(ahead), i)
		f(path)
		paths(t.Kids, path, f)
	}
}

func TestParts(t *testing.T) {
	g := newGenerator(2)
	for range 500 {
		l, by := g.any(3), g.any(2)
		u := api.Term{Kind: api.Word, Text: "put", Kids: g.any(1)}
		all, _ := Size(l)
		found := 0
		paths(l, nil, func(path []int) {
			found++
			old, ok := At(l, path)
			same, put := Put(l, path, []api.Term{old})
			if !ok || !put || !Equal(same, l) {
				t.Fatalf("Put of the term that is there: %v, %v, %v", l, path, same)
			}
			m, _ := Put(l, path, []api.Term{u})
			if back, ok := At(m, path); !ok || !Equal([]api.Term{back}, []api.Term{u}) {
				t.Fatalf("At of Put: %v, %v, %v", l, path, back)
			}
			m, _ = Put(l, path, by)
			n, _ := Size(m)
			gone, _ := Size([]api.Term{old})
			added, _ := Size(by)
			if n != all-gone+added {
				t.Fatalf("Size of Put: %d, want %d - %d + %d", n, all, gone, added)
			}
		})
		if found != all {
			t.Fatalf("%v has %d paths and %d terms", l, found, all)
		}
		joined, depth := Size(append(slices.Clone(l), by...))
		n1, d1 := Size(l)
		n2, d2 := Size(by)
		if joined != n1+n2 || depth != max(d1, d2) {
			t.Fatalf("Size of two expressions: %d, %d", joined, depth)
		}
	}
}

func TestKindsOfExpressions(t *testing.T) {
	g := newGenerator(3)
	seen := map[[3]api.Errno]int{}
	for range 5000 {
		l := g.any(2)
		if g.Intn(2) == 0 {
			l = g.result(api.Group+g.Intn(5), 3)
		}
		v, p, r := Value(l), Pattern(l), Result(l)
		if v == api.OK && p != api.OK || p == api.OK && r != api.OK {
			t.Fatalf("%v: Value %v, Pattern %v, Result %v", l, v, p, r)
		}
		seen[[3]api.Errno{v, p, r}]++
	}
	if len(seen) != 4 {
		t.Errorf("the expressions were of %d sorts, not of 4: %v", len(seen), seen)
	}
}
