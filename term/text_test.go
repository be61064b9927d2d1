package term

import (
	"strings"
	"testing"

	"chiasmus/api"
)

func TestText(t *testing.T) {
	for _, c := range []struct {
		l    []api.Term
		want string
	}{
		{nil, ""},
		{Chars("ab"), "'ab'"},
		{Chars("\\'\n\t\r\x00\x1f\x7f\xab~ \""), `'\\\'\n\t\x0d\x00\x1f\x7f\xab~ "'`},
		{one(api.Word, "a-B_9"), "a-B_9"},
		{one(api.Word, "9a"), `"9a"`},
		{one(api.Word, "-a"), `"-a"`},
		{one(api.Word, "_a"), `"_a"`},
		{one(api.Word, "a.b"), `"a.b"`},
		{one(api.Word, `"\'`), `"\"\\'"`},
		{one(api.Number, "-12"), "-12"},
		{append(one(api.SVar, "1"), append(one(api.TVar, "a"), one(api.EVar, "X")...)...), "s.1 t.a e.X"},
		{one(api.Group, ""), "()"},
		{one(api.Group, "", append(Chars("a"), one(api.Group, "")...)...), "('a' ())"},
		{one(api.Call, "F"), "<F>"},
		{one(api.Call, "F", one(api.Call, "G", Chars("xy")...)...), "<F <G 'xy'>>"},
		{append(Chars("a"), append(one(api.Word, "b"), Chars("cd")...)...), "'a' b 'cd'"},
		{append(one(api.Group, "", Chars("a")...), Chars("b")...), "('a') 'b'"},
	} {
		if s, e := Text(c.l); s != c.want || e != api.OK {
			t.Errorf("Text = %s, %v, want %s", s, e, c.want)
		}
		if l, at, e := Parse(c.want); !Equal(l, c.l) || at != 0 || e != api.OK {
			t.Errorf("Parse(%s) = %v, %d, %v", c.want, l, at, e)
		}
	}
}

// wordsOf returns words whose text has so many bytes, at most 61 of them behind the last space.
func wordsOf(size int) []api.Term {
	var l []api.Term
	for size > 61 {
		l = append(l, one(api.Word, strings.Repeat("w", 39))...)
		size -= 40
	}
	return append(l, one(api.Word, strings.Repeat("w", size))...)
}

func TestTextErrors(t *testing.T) {
	for _, c := range []struct {
		name string
		l    []api.Term
		size int
		want api.Errno
	}{
		{"not right", one(api.Word, ""), 0, api.ErrForm},
		{"too many", Chars(strings.Repeat("a", 4001)), 0, api.ErrCount},
		{"too deep", nested(101), 0, api.ErrDepth},
		{"small", wordsOf(100), 100, api.OK},
		{"as large as may be", wordsOf(40000), 40000, api.OK},
		{"too large", wordsOf(40001), 0, api.ErrLarge},
		{"far too large", wordsOf(150000), 0, api.ErrLarge},
		{"too large and not right", append(wordsOf(40001), api.Term{Kind: 9}), 0, api.ErrForm},
	} {
		s, e := Text(c.l)
		if e != c.want || len(s) != c.size {
			t.Errorf("%s: Text has %d bytes, %v, want %d, %v", c.name, len(s), e, c.size, c.want)
		}
	}
}

func TestParse(t *testing.T) {
	for s, want := range map[string]string{
		"":                                   "",
		" \t\r\n":                            "",
		"''":                                 "",
		"'' a ''":                            "a",
		"'a' 'b'":                            "'ab'",
		"'a''b'c":                            "'ab' c",
		"a'b'":                               "a 'b'",
		`'\x4F\x4f\xaB'`:                     `'OO\xab'`,
		`'\n\t\\\''`:                         `'\n\t\\\''`,
		`'"'`:                                `'"'`,
		`"a"b`:                               "a b",
		`"a""b"`:                             "a b",
		`"\\\""`:                             `"\\\""`,
		`"'"`:                                `"'"`,
		"s t e":                              "s t e",
		"se st-1":                            "se st-1",
		"s.s t.e9 e.e":                       "s.s t.e9 e.e",
		"S":                                  "S",
		"0 -1 10":                            "0 -1 10",
		"(a)(b)":                             "(a) (b)",
		"( a( ) )":                           "(a ())",
		"< \n F>":                            "<F>",
		"<F(a)>":                             "<F (a)>",
		"<F'a'>":                             "<F 'a'>",
		"<F<G>>":                             "<F <G>>",
		"<F-1_>":                             "<F-1_>",
		"1(2)-3":                             "1 (2) -3",
		"\ta\rb\nc d ":                       "a b c d",
		"(" + "'a'" + ")<F>\"x y\"":          "('a') <F> \"x y\"",
		strings.Repeat("w", 60):              strings.Repeat("w", 60),
		strings.Repeat("9", 500):             strings.Repeat("9", 500),
		"e." + strings.Repeat("v", 40):       "e." + strings.Repeat("v", 40),
		"<" + strings.Repeat("f", 40) + ">":  "<" + strings.Repeat("f", 40) + ">",
		`"` + strings.Repeat(`\"`, 60) + `"`: `"` + strings.Repeat(`\"`, 60) + `"`,
		strings.Repeat("(", 100) + strings.Repeat(")", 100): strings.Repeat("(", 100) + strings.Repeat(")", 100),
	} {
		l, at, e := Parse(s)
		got, _ := Text(l)
		if got != want || at != 0 || e != api.OK {
			t.Errorf("Parse(%q) = %s, %d, %v, want %s", s, got, at, e, want)
		}
	}
}

func TestHexadecimalDigits(t *testing.T) {
	const digits = "0123456789abcdefABCDEF"
	for i := range len(digits) {
		for _, s := range []string{`'\x0` + digits[i:i+1] + `'`, `'\x` + digits[i:i+1] + `0'`} {
			l, _, _ := Parse(s)
			n := i - i/16*6
			if s[3] != '0' {
				n *= 16
			}
			if !Equal(l, Chars(string([]byte{byte(n)}))) {
				t.Errorf("Parse(%s) = %v", s, l)
			}
		}
	}
	for _, c := range "/:@G`g" {
		if _, at, e := Parse(`'\x0` + string(c) + `'`); e != api.ErrText || at != 1 {
			t.Errorf("Parse with the digit %q = %d, %v", c, at, e)
		}
	}
}

func TestParseErrors(t *testing.T) {
	long := strings.Repeat
	for s, at := range map[string]int{
		// what cannot be an item
		"a .b": 2, "a }": 2, "- 2": 0, "-": 0, "_a": 0, "a \x00": 2, "a \xe9": 2, "*": 0, "{": 0, "\x0b": 0,
		// brackets
		"(": 1, "( ": 2, "((a)": 4, ")": 0, "a)": 1, "(>": 1, "<F )": 3, "<F": 2, "<F ": 3, "(<F>": 4, ">": 0, "<F>>": 3,
		// calls
		"<": 1, "< ": 2, "<>": 1, "< >": 2, "<1>": 1, "<(>": 1, "<'F'>": 1, "<-F>": 1, "<F.>": 2, "<s.x>": 2, "<" + long("f", 41) + ">": 1,
		// quotations of characters
		"'": 1, "'a": 2, `'\'`: 3, `'\n`: 3, `'\x41`: 5, `"\"`: 3, `'\q'`: 1, `'a\`: 2, `'\"'`: 1, `'\x4'`: 1, `'\xg0'`: 1, `'\x0g'`: 1, `'\x`: 1, `'\X41'`: 1, "'a\n'": 2, "'\x7f'": 1, "'\x1f'": 1, "'a' 'b": 6,
		// quoted words
		`"`: 1, `"a`: 2, `""`: 0, `a ""`: 2, `"\n"`: 1, `"\'"`: 1, `"\x41"`: 1, "\"\n\"": 1, `"` + long("w", 61) + `"`: 0, `"` + long("w", 61): 62,
		// variables
		"e.": 0, "a s.": 2, "t.-": 0, "t..": 0, "e." + long("v", 41): 0, "s.x-1": 3, "s.x_": 3, "s.x.y": 3, "s._": 0,
		// words
		"a.b": 1, "a-.": 2, "ab.": 2, long("w", 61): 0, "x.1": 1, "se.x": 2, "a s.1 b.": 7,
		// numbers
		"1a": 1, "1-2": 1, "1_": 1, "1.": 1, "01": 0, "00": 0, "-0": 0, "-01": 0, "-0a": 0, "01a": 0, "a -": 2, "--1": 0, long("9", 501): 0, "0a": 1, "-7s.x": 2,
	} {
		if l, i, e := Parse(s); e != api.ErrText || i != at || len(l) != 0 {
			t.Errorf("Parse(%q) = %v, %d, %v, want %d", s, l, i, e, at)
		}
	}
}

func TestParseLimits(t *testing.T) {
	for _, c := range []struct {
		name, text string
		at         int
		want       api.Errno
	}{
		{"as large as may be", strings.Repeat(" ", 40000), 0, api.OK},
		{"too large", strings.Repeat(" ", 40001), 0, api.ErrLarge},
		{"too large and wrong", ")" + strings.Repeat(" ", 40000), 0, api.ErrLarge},
		{"as many as may be", "'" + strings.Repeat("a", 4000) + "'", 0, api.OK},
		{"too many", "'" + strings.Repeat("a", 4001) + "'", 0, api.ErrCount},
		{"too deep", strings.Repeat("(", 101) + strings.Repeat(")", 101), 0, api.ErrDepth},
		{"brackets that do not end", strings.Repeat("(", 40000), 40000, api.ErrText},
		{"a text that is wrong behind too many", strings.Repeat("a ", 4001) + ")", 8002, api.ErrText},
		{"a deep text that is wrong", strings.Repeat("(", 101) + strings.Repeat(")", 102), 202, api.ErrText},
	} {
		if l, at, e := Parse(c.text); at != c.at || e != c.want || e != api.OK && len(l) != 0 {
			t.Errorf("%s: Parse = %d, %v, want %d, %v", c.name, at, e, c.at, c.want)
		}
	}
}

func TestParseOfText(t *testing.T) {
	g := newGenerator(4)
	for range 3000 {
		l := g.result(api.Call, 4)
		s, e := Text(l)
		if e != api.OK {
			t.Fatalf("Text(%v) = %v", l, e)
		}
		if m, _, e := Parse(s); e != api.OK || !Equal(l, m) {
			t.Fatalf("Parse(%s) = %v, %v", s, m, e)
		}
	}
}

func TestTextOfParse(t *testing.T) {
	g := newGenerator(5)
	parts := []string{"'", `"`, `\`, "a", "F", "s.", "e.1", " ", "(", ")", "<", "<F", ">", "0", "1", "-", "_", ".", "\n", `\x41`, `\n`, "'ab'", "\x80"}
	right := 0
	for range 30000 {
		var b strings.Builder
		for range g.Intn(7) {
			b.WriteString(parts[g.Intn(len(parts))])
		}
		l, at, e := Parse(b.String())
		if e != api.OK {
			if e != api.ErrText || at < 0 || at > b.Len() || len(l) != 0 {
				t.Fatalf("Parse(%q) = %v, %d, %v", b.String(), l, at, e)
			}
			continue
		}
		right++
		s, _ := Text(l)
		if m, _, e := Parse(s); e != api.OK || !Equal(l, m) {
			t.Fatalf("Parse(%s) = %v, %v", s, m, e)
		}
	}
	if right < 1000 {
		t.Errorf("only %d texts were right", right)
	}
}

func TestDeepTerms(t *testing.T) {
	l := nested(60000)
	m := Copy(l)
	if !Equal(l, m) || Compare(l, m) != 0 || Compare(l, l[0].Kids) != 1 || len(Variables(l)) != 0 || Calls(l) {
		t.Error("terms deeper than any limit")
	}
	path := make([]int, 60000)
	if u, ok := At(l, path); !ok || len(u.Kids) != 0 {
		t.Error("At of a deep term")
	}
	if p, ok := Put(l, path, Chars("a")); !ok || Compare(p, l) != -1 {
		t.Error("Put of a deep term")
	}
}
