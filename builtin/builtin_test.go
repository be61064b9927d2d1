package builtin_test

import (
	"slices"
	"strconv"
	"strings"
	"testing"

	"chiasmus/api"
	"chiasmus/builtin"
	"chiasmus/term"
)

var (
	long  = strings.Repeat
	nines = long("9", 500)
	bad   = []api.Term{{Kind: api.Number, Text: "01"}}
)

func parsed(t testing.TB, s string) []api.Term {
	t.Helper()
	l, at, e := term.Parse(s)
	if e != api.OK {
		t.Fatalf("Parse(%q) = %d, %v", s, at, e)
	}
	return l
}

func text(l []api.Term) string {
	s, e := term.Text(l)
	if e != api.OK {
		return "error " + e.Error()
	}
	return s
}

// nested returns groups within each other.
func nested(depth int) []api.Term {
	var l []api.Term
	for range depth {
		l = []api.Term{{Kind: api.Group, Kids: l}}
	}
	return l
}

func chars(n int) []api.Term { return term.Chars(long("a", n)) }

// store returns one with buried expressions, each written as its key, `=` and its value.
func store(t testing.TB, l ...string) api.Store {
	t.Helper()
	var st api.Store
	for _, s := range l {
		key, value, _ := strings.Cut(s, "=")
		st.Buried = append(st.Buried, api.Buried{Key: parsed(t, key), Value: parsed(t, value)})
	}
	return st
}

// storeText returns the text of a store: the buried expressions, and then the lines, each behind a `|`.
func storeText(st api.Store) string {
	var l []string
	for _, b := range st.Buried {
		l = append(l, text(b.Key)+"="+text(b.Value))
	}
	for _, line := range st.Output {
		l = append(l, "|"+line)
	}
	return strings.Join(l, "; ")
}

func isZero(st api.Store) bool { return len(st.Buried) == 0 && len(st.Output) == 0 }

// apply calls a function with the text of an argument.
func apply(t testing.TB, name, arg string, st api.Store) ([]api.Term, api.Store, api.Errno) {
	t.Helper()
	return builtin.Apply(name, parsed(t, arg), st)
}

var names = []string{"Add", "Br", "Chr", "Compare", "Cp", "Dg", "Div", "Divmod", "Dn", "Explode", "First", "Implode", "Last", "Lenw", "Lower",
	"Mod", "Mu", "Mul", "Numb", "Ord", "Prout", "Rp", "Sub", "Symb", "Type", "Up", "Upper"}

func TestNames(t *testing.T) {
	if l := builtin.Names(); !slices.Equal(l, names) || !slices.IsSorted(l) {
		t.Errorf("Names = %v", l)
	}
	keep := map[string]bool{"Br": true, "Cp": true, "Dg": true, "Prout": true, "Rp": true}
	for _, name := range names {
		if !builtin.Is(name) || builtin.Keeps(name) != keep[name] {
			t.Errorf("%s: Is %v, Keeps %v", name, builtin.Is(name), builtin.Keeps(name))
		}
	}
	for _, name := range []string{"", "add", "ADD", "Add ", "Print", "Prou", "Prout1", "Arg", "\x00"} {
		if builtin.Is(name) || builtin.Keeps(name) {
			t.Errorf("%q: Is %v, Keeps %v", name, builtin.Is(name), builtin.Keeps(name))
		}
		if l, st, e := apply(t, name, "1 2", store(t, "a=b")); e != api.ErrMissing || len(l) != 0 || !isZero(st) {
			t.Errorf("Apply of %q = %s, %s, %v", name, text(l), storeText(st), e)
		}
	}
	builtin.Names()[0] = "changed"
	if builtin.Names()[0] != "Add" {
		t.Error("the names were changed")
	}
}

type applyCase struct {
	name, arg, want string
	e               api.Errno
}

// results are of functions that keep nothing.
var results = []applyCase{
	{"Add", "2 3", "5", 0}, {"Add", "-2 2", "0", 0}, {"Add", nines + " 1", "", api.ErrLarge}, {"Add", nines + " -1", long("9", 499) + "8", 0},
	{"Add", "", "", 22}, {"Add", "1", "", 22}, {"Add", "1 2 3", "", 22}, {"Add", "1 '2'", "", 22}, {"Add", "a 2", "", 22}, {"Add", "(1) 2", "", 22}, {"Add", "(1 2)", "", 22},
	{"Sub", "2 3", "-1", 0}, {"Sub", "3 3", "0", 0}, {"Sub", "-" + nines + " 1", "", api.ErrLarge}, {"Sub", "1", "", 22}, {"Sub", "1 (2)", "", 22},
	{"Mul", "-2 3", "-6", 0}, {"Mul", "0 -3", "0", 0}, {"Mul", nines + " " + nines, "", api.ErrLarge}, {"Mul", "2 a", "", 22}, {"Mul", "1 2 3", "", 22},
	{"Div", "-7 2", "-3", 0}, {"Div", "7 -2", "-3", 0}, {"Div", "0 5", "0", 0}, {"Div", "5 0", "", 22}, {"Div", "0 0", "", 22}, {"Div", "5", "", 22}, {"Div", "'5' 1", "", 22},
	{"Mod", "-7 2", "-1", 0}, {"Mod", "7 -2", "1", 0}, {"Mod", "4 2", "0", 0}, {"Mod", "5 0", "", 22}, {"Mod", "1 2 3", "", 22}, {"Mod", "1 ()", "", 22},
	{"Divmod", "-7 2", "(-3) -1", 0}, {"Divmod", "6 3", "(2) 0", 0}, {"Divmod", nines + " 1", "(" + nines + ") 0", 0}, {"Divmod", "5 0", "", 22}, {"Divmod", "5", "", 22},
	{"Compare", "1 2", "'-'", 0}, {"Compare", "2 2", "'0'", 0}, {"Compare", "10 9", "'+'", 0}, {"Compare", "-10 -9", "'-'", 0}, {"Compare", "1", "", 22}, {"Compare", "'1' '2'", "", 22},
	{"Compare", nines + " -" + nines, "'+'", 0},

	{"Numb", "'12'", "12", 0}, {"Numb", "'-12'", "-12", 0}, {"Numb", "'007'", "7", 0}, {"Numb", "'-007'", "-7", 0}, {"Numb", "'0'", "0", 0}, {"Numb", "'-0'", "0", 0},
	{"Numb", "'000'", "0", 0}, {"Numb", "'" + nines + "'", nines, 0}, {"Numb", "'-" + nines + "'", "-" + nines, 0}, {"Numb", "'000" + nines + "'", nines, 0},
	{"Numb", "'1" + long("0", 500) + "'", "", api.ErrLarge}, {"Numb", "'-1" + long("0", 500) + "'", "", api.ErrLarge}, {"Numb", "'" + long("0", 4000) + "'", "0", 0},
	{"Numb", "", "", 22}, {"Numb", "'-'", "", 22}, {"Numb", "'+1'", "", 22}, {"Numb", "'--1'", "", 22}, {"Numb", "'1-'", "", 22}, {"Numb", "'1a'", "", 22}, {"Numb", "' 1'", "", 22},
	{"Numb", "1", "", 22}, {"Numb", "a", "", 22}, {"Numb", "'1' 2", "", 22}, {"Numb", "('1')", "", 22}, {"Numb", "'1' ()", "", 22}, {"Numb", "'" + long("1", 501) + "x'", "", 22},
	{"Symb", "12", "'12'", 0}, {"Symb", "-12", "'-12'", 0}, {"Symb", "0", "'0'", 0}, {"Symb", "-" + nines, "'-" + nines + "'", 0}, {"Symb", "", "", 22}, {"Symb", "'1'", "", 22},
	{"Symb", "a", "", 22}, {"Symb", "1 2", "", 22}, {"Symb", "(1)", "", 22},
	{"Ord", "", "", 0}, {"Ord", `'aA\x00\xff\n' W 5 ('b' ('c'))`, "97 65 0 255 10 W 5 (98 (99))", 0},
	{"Chr", "", "", 0}, {"Chr", "97 0 255 256 -1 10 (98 (99 W)) 'x' " + nines, `'a\x00\xff' 256 -1 '\n' ('b' ('c' W)) 'x' ` + nines, 0}, {"Chr", "99999999999999999999", "99999999999999999999", 0},

	{"Type", "", "'*'", 0}, {"Type", "'a' b", "'Ca' b", 0}, {"Type", "a 'b'", "'W' a 'b'", 0}, {"Type", "-1", "'N' -1", 0}, {"Type", "() a", "'G' () a", 0},
	{"Type", "'" + long("a", 3999) + "'", "'C" + long("a", 3999) + "'", 0}, {"Type", "'" + long("a", 4000) + "'", "", api.ErrLarge},
	{"Lenw", "", "0", 0}, {"Lenw", "'ab' (c d)", "3 'ab' (c d)", 0}, {"Lenw", "'" + long("a", 3999) + "'", "3999 '" + long("a", 3999) + "'", 0}, {"Lenw", "'" + long("a", 4000) + "'", "", api.ErrLarge},
	{"First", "2 'abc'", "('ab') 'c'", 0}, {"First", "0 'abc'", "() 'abc'", 0}, {"First", "3 'abc'", "('abc')", 0}, {"First", "4 'abc'", "('abc')", 0}, {"First", "5", "()", 0},
	{"First", nines + " 'ab'", "('ab')", 0}, {"First", "1 (a b) c", "((a b)) c", 0}, {"First", "1 2 3", "(2) 3", 0}, {"First", "9223372036854775808 'ab'", "('ab')", 0},
	{"First", "", "", 22}, {"First", "-1 'ab'", "", 22}, {"First", "-" + nines, "", 22}, {"First", "'1ab'", "", 22}, {"First", "a 1", "", 22}, {"First", "(1) 'a'", "", 22},
	{"Last", "2 'abc'", "('a') 'bc'", 0}, {"Last", "0 'abc'", "('abc')", 0}, {"Last", "3 'abc'", "() 'abc'", 0}, {"Last", "4 'abc'", "() 'abc'", 0}, {"Last", "0", "()", 0},
	{"Last", nines + " 'ab'", "() 'ab'", 0}, {"Last", "1 c (a b)", "(c) (a b)", 0}, {"Last", "-1 'ab'", "", 22}, {"Last", "", "", 22}, {"Last", "'1ab'", "", 22}, {"Last", "W", "", 22},

	{"Explode", "Word", "'Word'", 0}, {"Explode", "\"x \\\"'\"", `'x "\''`, 0}, {"Explode", "", "", 22}, {"Explode", "a b", "", 22}, {"Explode", "'a'", "", 22}, {"Explode", "1", "", 22}, {"Explode", "(a)", "", 22},
	{"Implode", "'Word'", "Word", 0}, {"Implode", "'1 ~'", "\"1 ~\"", 0}, {"Implode", "'" + long("w", 60) + "'", long("w", 60), 0}, {"Implode", "'" + long("w", 61) + "'", "", 22},
	{"Implode", "", "", 22}, {"Implode", "'a' b", "", 22}, {"Implode", `'\x1f'`, "", 22}, {"Implode", `'a\x7f'`, "", 22}, {"Implode", `'\n'`, "", 22}, {"Implode", "5", "", 22}, {"Implode", "W", "", 22}, {"Implode", "('a')", "", 22},
	{"Upper", "", "", 0}, {"Upper", "'azAZ@[{`\\xe4' word 1 ('b' ('c'))", "'AZAZ@[{`\\xe4' word 1 ('B' ('C'))", 0},
	{"Lower", "", "", 0}, {"Lower", "'azAZ@[{`\\xc4' WORD 1 ('B' ('C'))", "'azaz@[{`\\xc4' WORD 1 ('b' ('c'))", 0},

	{"Mu", "F 'a'", "<F 'a'>", 0}, {"Mu", "F", "<F>", 0}, {"Mu", "a-b_1 (c) W", "<a-b_1 (c) W>", 0}, {"Mu", long("f", 40), "<" + long("f", 40) + ">", 0}, {"Mu", long("f", 41), "", 22},
	{"Mu", "", "", 22}, {"Mu", "\"F G\"", "", 22}, {"Mu", "\"1F\"", "", 22}, {"Mu", "\"-\"", "", 22}, {"Mu", "'F'", "", 22}, {"Mu", "1", "", 22}, {"Mu", "(F)", "", 22},
	{"Up", "", "", 0}, {"Up", "'*a' ('*') W 5", "'*Va' ('*V') W 5", 0}, {"Up", "'" + long("*", 2000) + "'", "'" + long("*V", 2000) + "'", 0}, {"Up", "'" + long("*", 2001) + "'", "", api.ErrLarge},
	{"Dn", "", "", 0}, {"Dn", "'*Va' ('*V') W 5", "'*a' ('*') W 5", 0}, {"Dn", "'*' (F 'a' '*' (G))", "<F 'a' <G>>", 0}, {"Dn", "'*'", "", 22}, {"Dn", "'*X'", "", 22}, {"Dn", "('*' (\"1\"))", "", 22},
	{"Dn", "'*S' x", "", 22}, {"Dn", "('*E' x)", "", 22}, {"Dn", "'*' (F '*T' \"1\")", "", 22}, {"Dn", "'*S' 'x'", "", 22},
}

func TestResults(t *testing.T) {
	kept := store(t, "'k'=v", "=(w)")
	kept.Output = []string{"line", "\x00"}
	for _, c := range results {
		for _, st := range []api.Store{{}, kept} {
			l, behind, e := apply(t, c.name, c.arg, st)
			if text(l) != c.want || e != c.e {
				t.Errorf("<%s %s> = %s, %v, want %s, %v", c.name, c.arg, text(l), e, c.want, c.e)
			}
			if e == api.OK && storeText(behind) != storeText(st) || e != api.OK && (!isZero(behind) || len(l) != 0) {
				t.Errorf("<%s %s> leaves the store %s", c.name, c.arg, storeText(behind))
			}
		}
	}
}

func TestDeepResults(t *testing.T) {
	head := func(s string, l []api.Term) []api.Term { return append(parsed(t, s), l...) }
	for _, c := range []struct {
		name string
		arg  []api.Term
		e    api.Errno
	}{
		{"First", head("1", nested(99)), api.OK},
		{"First", head("1", nested(100)), api.ErrLarge},
		{"First", head("0", nested(100)), api.OK},
		{"Last", head("0", nested(99)), api.OK},
		{"Last", head("0", nested(100)), api.ErrLarge},
		{"Last", head("1", nested(100)), api.OK},
		{"Mu", head("F", nested(99)), api.OK},
		{"Mu", head("F", nested(100)), api.ErrLarge},
		{"Type", nested(100), api.OK},
		{"Upper", nested(100), api.OK},
		{"Up", nested(100), api.OK},
		{"Dn", nested(100), api.OK},
		{"First", append(parsed(t, "5"), chars(3999)...), api.OK},
		{"Ord", chars(4000), api.OK},
	} {
		l, st, e := builtin.Apply(c.name, c.arg, api.Store{})
		if e != c.e || e != api.OK && len(l) != 0 || !isZero(st) {
			t.Errorf("%s: %d terms, %v, want %v", c.name, len(l), e, c.e)
		}
	}
}

func TestStacks(t *testing.T) {
	for _, c := range []struct {
		name, arg   string
		st          api.Store
		want, after string
		e           api.Errno
	}{
		{"Br", "'k=v'", store(t), "", "'k'='v'", 0},
		{"Br", "'k=v'", store(t, "'k'=w"), "", "'k'='v'; 'k'=w", 0},
		{"Br", "'='", store(t, "a=b"), "", "=; a=b", 0},
		{"Br", "'=='", store(t), "", "='='", 0},
		{"Br", "(a '=' b) '=' c '=' d", store(t), "", "(a '=' b)=c '=' d", 0},
		{"Br", "'kv'", store(t), "", "", 22},
		{"Br", "", store(t), "", "", 22},
		{"Br", "('k=v')", store(t), "", "", 22},
		{"Br", "k \"=\" v", store(t), "", "", 22},

		{"Cp", "'k'", store(t, "'k'='v'"), "'v'", "'k'='v'", 0},
		{"Cp", "'k'", store(t, "a=b", "'k'=v", "'k'=w"), "v", "a=b; 'k'=v; 'k'=w", 0},
		{"Cp", "", store(t, "a=b", "=c"), "c", "a=b; =c", 0},
		{"Cp", "k", store(t, "'k'=v"), "", "'k'=v", 0},
		{"Cp", "(k)", store(t, "k=v", "(k)=(w)"), "(w)", "k=v; (k)=(w)", 0},
		{"Cp", "", store(t), "", "", 0},
		{"Cp", "'k=v'", store(t, "'k'=v"), "", "'k'=v", 0},

		{"Dg", "'k'", store(t, "a=b", "'k'=v", "'k'=w", "c=d"), "v", "a=b; 'k'=w; c=d", 0},
		{"Dg", "a", store(t, "a=b"), "b", "", 0},
		{"Dg", "a", store(t, "a="), "", "", 0},
		{"Dg", "b", store(t, "a=b"), "", "a=b", 0},
		{"Dg", "", store(t), "", "", 0},

		{"Rp", "'k=v'", store(t), "", "'k'='v'", 0},
		{"Rp", "'k=v'", store(t, "a=b", "'k'=x", "'k'=w"), "", "a=b; 'k'='v'; 'k'=w", 0},
		{"Rp", "'k=v'", store(t, "k=x"), "", "'k'='v'; k=x", 0},
		{"Rp", "'='", store(t, "a=b", "=c"), "", "a=b; =", 0},
		{"Rp", "k v", store(t), "", "", 22},
		{"Rp", "('=')", store(t), "", "", 22},

		{"Prout", "'a' W (-1)", store(t, "a=b"), "", "a=b; |'a' W (-1)", 0},
		{"Prout", "", store(t), "", "|", 0},
		{"Prout", `'\n'`, store(t), "", `|'\n'`, 0},
	} {
		l, after, e := apply(t, c.name, c.arg, c.st)
		if text(l) != c.want || storeText(after) != c.after || e != c.e {
			t.Errorf("<%s %s> with %s = %s, %s, %v, want %s, %s, %v", c.name, c.arg, storeText(c.st), text(l), storeText(after), e, c.want, c.after, c.e)
		}
	}
}

// full returns a store with as many buried expressions and lines as may be.
func full() api.Store {
	var st api.Store
	for i := range 200 {
		st.Buried = append(st.Buried, api.Buried{Key: term.Chars("k" + strconv.Itoa(i)), Value: term.Chars("v")})
		st.Output = append(st.Output, "line")
	}
	return st
}

func TestFullStore(t *testing.T) {
	st := full()
	for _, c := range []struct {
		name, arg, want string
		buried, lines   int
		e               api.Errno
	}{
		{"Add", "1 2", "3", 200, 200, api.OK},
		{"Br", "'k=v'", "", 0, 0, api.ErrLarge},
		{"Br", "'kv'", "", 0, 0, api.ErrBuiltin},
		{"Rp", "'k0=w'", "", 200, 200, api.OK},
		{"Rp", "'k=w'", "", 0, 0, api.ErrLarge},
		{"Cp", "'k199'", "'v'", 200, 200, api.OK},
		{"Dg", "'k199'", "'v'", 199, 200, api.OK},
		{"Prout", "", "", 0, 0, api.ErrLarge},
	} {
		l, after, e := apply(t, c.name, c.arg, st)
		if text(l) != c.want || len(after.Buried) != c.buried || len(after.Output) != c.lines || e != c.e {
			t.Errorf("<%s %s> = %s, %d, %d, %v", c.name, c.arg, text(l), len(after.Buried), len(after.Output), e)
		}
	}
	st.Buried, st.Output = st.Buried[:199], st.Output[:199]
	if _, after, e := apply(t, "Br", "'='", st); len(after.Buried) != 200 || e != api.OK {
		t.Errorf("the last expression: %d, %v", len(after.Buried), e)
	}
	if _, after, e := apply(t, "Prout", "a", st); len(after.Output) != 200 || after.Output[199] != "a" || e != api.OK {
		t.Errorf("the last line: %d, %v", len(after.Output), e)
	}
}

func TestLargeLines(t *testing.T) {
	word := []api.Term{{Kind: api.Word, Text: long("w", 39)}}
	words := slices.Repeat(word, 999) // with the spaces behind them 39960 bytes
	for size, want := range map[int]api.Errno{40: api.OK, 41: api.ErrLarge} {
		last := api.Term{Kind: api.Word, Text: long("w", size)}
		_, st, e := builtin.Apply("Prout", append(slices.Clone(words), last), api.Store{})
		if e != want || e == api.OK && len(st.Output[0]) != 40000 || e != api.OK && !isZero(st) {
			t.Errorf("Prout of a text of %d bytes = %v", 39960+size, e)
		}
	}
}

// brokenStores are stores with an error.
func brokenStores(t *testing.T) map[string]struct {
	st   api.Store
	want api.Errno
} {
	type broken = struct {
		st   api.Store
		want api.Errno
	}
	more, lines := full(), full()
	more.Buried = append(more.Buried, api.Buried{Key: bad})
	lines.Output = append(lines.Output, "")
	of := func(l ...api.Buried) api.Store { return api.Store{Buried: l} }
	return map[string]broken{
		"none":                      {api.Store{}, api.OK},
		"full":                      {full(), api.OK},
		"any lines":                 {api.Store{Output: []string{"\xff\n", long("a", 50000)}}, api.OK},
		"too many expressions":      {more, api.ErrCount},
		"too many lines":            {lines, api.ErrCount},
		"too many, and a wrong key": {api.Store{Buried: of(api.Buried{Key: bad}).Buried, Output: lines.Output}, api.ErrCount},
		"a key that is none":        {of(api.Buried{Key: bad, Value: chars(4001)}), api.ErrForm},
		"a value that is none":      {of(api.Buried{Value: bad}), api.ErrForm},
		"a variable":                {of(api.Buried{Key: parsed(t, "s.1")}), api.ErrForm},
		"a call":                    {of(api.Buried{Value: parsed(t, "(<F>)")}), api.ErrForm},
		"a key too large":           {of(api.Buried{Key: chars(4001), Value: bad}), api.ErrCount},
		"a value too deep":          {of(api.Buried{}, api.Buried{Value: nested(101)}, api.Buried{Key: bad}), api.ErrDepth},
		"the first error":           {of(api.Buried{Value: nested(101)}, api.Buried{Key: bad}), api.ErrDepth},
	}
}

func TestCheck(t *testing.T) {
	for name, c := range brokenStores(t) {
		if e := builtin.Check(c.st); e != c.want {
			t.Errorf("%s: Check = %v, want %v", name, e, c.want)
		}
		if values, e := builtin.Get(c.st, nil); e != c.want || e != api.OK && len(values) != 0 {
			t.Errorf("%s: Get = %d, %v, want %v", name, len(values), e, c.want)
		}
		if l, st, e := builtin.Apply("Lenw", nil, c.st); e != c.want || e != api.OK && (len(l) != 0 || !isZero(st)) {
			t.Errorf("%s: Apply = %s, %v, want %v", name, text(l), e, c.want)
		}
	}
}

// TestErrorOrder has calls with several errors.
func TestErrorOrder(t *testing.T) {
	broken := api.Store{Buried: []api.Buried{{Value: nested(101)}}}
	for _, c := range []struct {
		title, name string
		arg         []api.Term
		st          api.Store
		want        api.Errno
	}{
		{"no function", "Plus", bad, broken, api.ErrMissing},
		{"an argument that is none", "Add", bad, broken, api.ErrForm},
		{"an argument too large", "Add", chars(4001), broken, api.ErrCount},
		{"an argument too deep", "Add", nested(101), api.Store{}, api.ErrDepth},
		{"a variable", "Lenw", parsed(t, "e.1"), broken, api.ErrForm},
		{"a call", "Prout", parsed(t, "(<F>)"), broken, api.ErrForm},
		{"a store that is not right", "Add", chars(1), broken, api.ErrDepth},
		{"an argument that it does not take", "Add", chars(1), full(), api.ErrBuiltin},
		{"such an argument ahead of a full store", "Br", chars(1), full(), api.ErrBuiltin},
		{"such an argument ahead of its size", "Numb", append(term.Chars(long("1", 501)), chars(1)...), full(), api.ErrBuiltin},
	} {
		if l, st, e := builtin.Apply(c.name, c.arg, c.st); e != c.want || len(l) != 0 || !isZero(st) {
			t.Errorf("%s: Apply = %s, %v, want %v", c.title, text(l), e, c.want)
		}
	}
}

func TestGet(t *testing.T) {
	st := store(t, "k=1", "(k)=2", "k=3 (4)", "=5", "'k'=6", "k=")
	for key, want := range map[string]string{"k": "[1][3 (4)][]", "(k)": "[2]", "": "[5]", "'k'": "[6]", "k k": ""} {
		values, e := builtin.Get(st, parsed(t, key))
		got := ""
		for _, v := range values {
			got += "[" + text(v) + "]"
		}
		if got != want || e != api.OK {
			t.Errorf("Get(%s) = %s, %v, want %s", key, got, e, want)
		}
	}
	for _, c := range []struct {
		st   api.Store
		key  []api.Term
		want api.Errno
	}{
		{st, bad, api.ErrForm}, {st, parsed(t, "s.1"), api.ErrForm}, {st, nested(101), api.ErrDepth}, {st, chars(4001), api.ErrCount},
		{api.Store{Buried: []api.Buried{{Key: nested(101)}}}, bad, api.ErrDepth},
	} {
		if values, e := builtin.Get(c.st, c.key); len(values) != 0 || e != c.want {
			t.Errorf("Get = %v, %v, want %v", values, e, c.want)
		}
	}
}
