package token

import (
	"math/rand"
	"slices"
	"strings"
	"testing"

	"chiasmus/api"
)

var long = strings.Repeat

// sample returns a right token.
func sample(r *rand.Rand) Token {
	switch kind := 1 + r.Intn(7); kind {
	case Chars:
		b := make([]byte, r.Intn(4))
		for i := range b {
			b[i] = byte(r.Intn(256))
		}
		return Token{Kind: kind, Text: string(b)}
	case Quoted:
		return Token{Kind: kind, Text: []string{" ", `"`, `\`, "a'b", "F", "/*", "$x"}[r.Intn(7)]}
	case Name:
		return Token{Kind: kind, Text: []string{"F", "s", "a-b_1", "e1", "x-"}[r.Intn(5)]}
	case Number:
		return Token{Kind: kind, Text: []string{"0", "-1", "12"}[r.Intn(3)]}
	case Variable:
		return Token{Kind: kind, Text: []string{"s.1", "t.x", "e.Yz9"}[r.Intn(3)]}
	case Sign:
		return Token{Kind: kind, Text: string("()<>{}=,:;"[r.Intn(10)])}
	default:
		return Token{Kind: kind, Text: []string{"$ENTRY", "$EXTERN"}[r.Intn(2)]}
	}
}

func sameTokens(a, b []Token) bool {
	return slices.EqualFunc(a, b, func(t, u Token) bool { return t.Kind == u.Kind && t.Text == u.Text })
}

func TestScan(t *testing.T) {
	for s, want := range map[string][]Token{
		"":                         nil,
		" \t\r\n":                  nil,
		"F{s.1=<F>;}":              {{Name, "F", 0}, {Sign, "{", 1}, {Variable, "s.1", 2}, {Sign, "=", 5}, {Sign, "<", 6}, {Name, "F", 7}, {Sign, ">", 8}, {Sign, ";", 9}, {Sign, "}", 10}},
		"():,":                     {{Sign, "(", 0}, {Sign, ")", 1}, {Sign, ":", 2}, {Sign, ",", 3}},
		"$ENTRY":                   {{Keyword, "$ENTRY", 0}},
		"$ENTRY\t$EXTERN;":         {{Keyword, "$ENTRY", 0}, {Keyword, "$EXTERN", 7}, {Sign, ";", 14}},
		"a-b_9 Z":                  {{Name, "a-b_9", 0}, {Name, "Z", 6}},
		"s t e se st":              {{Name, "s", 0}, {Name, "t", 2}, {Name, "e", 4}, {Name, "se", 6}, {Name, "st", 9}},
		"s.1a t.T e.0":             {{Variable, "s.1a", 0}, {Variable, "t.T", 5}, {Variable, "e.0", 9}},
		"0 -1 90":                  {{Number, "0", 0}, {Number, "-1", 2}, {Number, "90", 5}},
		"''":                       {{Chars, "", 0}},
		"'ab''c'":                  {{Chars, "ab", 0}, {Chars, "c", 4}},
		`'\\\'\n\t\x4a\xFf"/*'`:    {{Chars, "\\'\n\tJ\xff\"/*", 0}},
		`"\\\"'*/"`:                {{Quoted, `\"'*/`, 0}},
		`"a"b'c'1(`:                {{Quoted, "a", 0}, {Name, "b", 3}, {Chars, "c", 4}, {Number, "1", 7}, {Sign, "(", 8}},
		"a'b'":                     {{Name, "a", 0}, {Chars, "b", 1}},
		"1'a'":                     {{Number, "1", 0}, {Chars, "a", 1}},
		"s.x\"a\"":                 {{Variable, "s.x", 0}, {Quoted, "a", 3}},
		long("n", 60):              {{Name, long("n", 60), 0}},
		"e." + long("v", 40):       {{Variable, "e." + long("v", 40), 0}},
		"-" + long("7", 500):       {{Number, "-" + long("7", 500), 0}},
		`"` + long(`\\`, 60) + `"`: {{Quoted, long(`\`, 60), 0}},
	} {
		if l, at, e := Scan(s); !slices.Equal(l, want) || at != 0 || e != api.OK {
			t.Errorf("Scan(%q) = %v, %d, %v, want %v", s, l, at, e, want)
		}
	}
}

func TestComments(t *testing.T) {
	for s, want := range map[string][]Token{
		"*":                  nil,
		"* a 'b\n":           nil,
		"* /* \na":           {{Name, "a", 6}},
		"*\n*\n\n*":          nil,
		"*\x00\xff\r\na":     {{Name, "a", 5}},
		"/**/":               nil,
		"/***/":              nil,
		"/*/*/a":             {{Name, "a", 5}},
		"/* a\n* 'b \x80*/c": {{Name, "c", 13}},
		"a/**/b":             {{Name, "a", 0}, {Name, "b", 5}},
		"s.1/* x */2":        {{Variable, "s.1", 0}, {Number, "2", 10}},
		"a/*\n*/\n*b\nc":     {{Name, "a", 0}, {Name, "c", 10}},
		"'/*'/*'*/'*/'":      {{Chars, "/*", 0}, {Chars, "*/", 9}},
		"'*'\n* '":           {{Chars, "*", 0}},
	} {
		if l, at, e := Scan(s); !slices.Equal(l, want) || at != 0 || e != api.OK {
			t.Errorf("Scan(%q) = %v, %d, %v, want %v", s, l, at, e, want)
		}
	}
}

func TestScanErrors(t *testing.T) {
	type fail struct {
		at int
		e  api.Errno
	}
	for s, want := range map[string]fail{
		"a b.c":   {3, ErrNear},
		"a.":      {1, ErrNear},
		"se.x":    {2, ErrNear},
		"s.x-":    {3, ErrNear},
		"s.x_1":   {3, ErrNear},
		"s.x.y":   {3, ErrNear},
		"1-2":     {1, ErrNear},
		"1a":      {1, ErrNear},
		"1_":      {1, ErrNear},
		"1.":      {1, ErrNear},
		"0a":      {1, ErrNear},
		"$ENTRY.": {6, ErrNear},

		"$":        {0, ErrKeyword},
		"$ ENTRY":  {0, ErrKeyword},
		"a $Entry": {2, ErrKeyword},
		"$ENTRYx":  {0, ErrKeyword},
		"$ENTRY-":  {0, ErrKeyword},
		"$ENTRY_":  {0, ErrKeyword},
		"$ENTRY1":  {0, ErrKeyword},
		"$1ENTRY":  {0, ErrKeyword},
		"$EXTER":   {0, ErrKeyword},
		"$$ENTRY":  {0, ErrKeyword},
		"$x.":      {0, ErrKeyword},

		" e.":                      {1, ErrLength},
		"s.-":                      {0, ErrLength},
		"t..":                      {0, ErrLength},
		"e." + long("v", 41):       {0, ErrLength},
		"e." + long("v", 41) + ".": {0, ErrLength},
		long("n", 61):              {0, ErrLength},
		long("n", 61) + ".":        {0, ErrLength},
		"01":                       {0, ErrLength},
		"00":                       {0, ErrLength},
		"-0":                       {0, ErrLength},
		"-01":                      {0, ErrLength},
		"-0a":                      {0, ErrLength},
		"a 01a":                    {2, ErrLength},
		long("7", 501):             {0, ErrLength},
		`a ""`:                     {2, ErrLength},
		`"` + long("w", 61) + `"`:  {0, ErrLength},

		"a 'b":                     {2, ErrQuote},
		"a 'b\n'":                  {2, ErrQuote},
		"'":                        {0, ErrQuote},
		`'\'`:                      {0, ErrQuote},
		`'\`:                       {0, ErrQuote},
		`'\x`:                      {0, ErrQuote},
		`'\x4`:                     {0, ErrQuote},
		`'\x4'`:                    {0, ErrQuote},
		`'\xg0'`:                   {0, ErrQuote},
		`'\x0G'`:                   {0, ErrQuote},
		`'\X00'`:                   {0, ErrQuote},
		`'\"'`:                     {0, ErrQuote},
		`'\q'`:                     {0, ErrQuote},
		"'\x1f'":                   {0, ErrQuote},
		"'\x7f'":                   {0, ErrQuote},
		"'\t'":                     {0, ErrQuote},
		`a "b`:                     {2, ErrQuote},
		"\"a\n\"":                  {0, ErrQuote},
		`"\'"`:                     {0, ErrQuote},
		`"\n"`:                     {0, ErrQuote},
		`"\t"`:                     {0, ErrQuote},
		`"\x41"`:                   {0, ErrQuote},
		"\"\x80\"":                 {0, ErrQuote},
		`"` + long("w", 61):        {0, ErrQuote},
		`"` + long("w", 61) + "\n": {0, ErrQuote},

		"a /* b":  {2, ErrComment},
		"/*":      {0, ErrComment},
		"/*/":     {0, ErrComment},
		"a\n/* *": {2, ErrComment},

		"a - 2": {2, ErrByte},
		"-":     {0, ErrByte},
		"-a":    {0, ErrByte},
		"_a":    {0, ErrByte},
		".":     {0, ErrByte},
		"a *":   {2, ErrByte},
		" *":    {1, ErrByte},
		"/":     {0, ErrByte},
		"/ *":   {0, ErrByte},
		"\x00":  {0, ErrByte},
		"\xe9":  {0, ErrByte},
		"\x0b":  {0, ErrByte},
		"a+":    {1, ErrByte},
		"/**/*": {4, ErrByte},
		"[":     {0, ErrByte},
		"a;#'":  {2, ErrByte},
	} {
		l, at, e := Scan(s)
		if at != want.at || e != want.e || len(l) != 0 {
			t.Errorf("Scan(%q) = %v, %d, %v, want %v", s, l, at, e, want)
		}
		if stripped, at, e := Strip(s); at != want.at || e != want.e || stripped != "" {
			t.Errorf("Strip(%q) = %q, %d, %v, want %v", s, stripped, at, e, want)
		}
	}
}

func TestCodes(t *testing.T) {
	for i, e := range []api.Errno{ErrByte, ErrQuote, ErrComment, ErrLength, ErrNear, ErrKeyword} {
		if e != api.Errno(40+i) {
			t.Errorf("the code %d is %v", 40+i, e)
		}
	}
	for i, kind := range []int{Chars, Quoted, Name, Number, Variable, Sign, Keyword} {
		if kind != i+1 {
			t.Errorf("the kind %d is %d", i+1, kind)
		}
	}
}

func TestHexadecimalDigits(t *testing.T) {
	const digits = "0123456789abcdefABCDEF"
	for i := range len(digits) {
		for _, s := range []string{`'\x0` + digits[i:i+1] + `'`, `'\x` + digits[i:i+1] + `0'`} {
			l, _, _ := Scan(s)
			n := i - i/16*6
			if s[3] != '0' {
				n *= 16
			}
			if !slices.Equal(l, []Token{{Chars, string([]byte{byte(n)}), 0}}) {
				t.Errorf("Scan(%s) = %v", s, l)
			}
		}
	}
	for _, c := range "/:@G`g" {
		if _, at, e := Scan(`'\x0` + string(c) + `'`); e != ErrQuote || at != 0 {
			t.Errorf("Scan with the digit %q = %d, %v", c, at, e)
		}
	}
}

func TestScanLimit(t *testing.T) {
	if _, at, e := Scan(long(" ", 40000)); at != 0 || e != api.OK {
		t.Errorf("Scan of as much as may be = %d, %v", at, e)
	}
	for _, s := range []string{long(" ", 40001), "." + long(" ", 40000), "/*" + long(" ", 40000)} {
		if l, at, e := Scan(s); at != 0 || e != api.ErrLarge || len(l) != 0 {
			t.Errorf("Scan of too much = %d, %v", at, e)
		}
		if l, at, e := Strip(s); at != 0 || e != api.ErrLarge || l != "" {
			t.Errorf("Strip of too much = %d, %v", at, e)
		}
	}
}

func TestCheckAndWrite(t *testing.T) {
	for _, c := range []struct {
		token Token
		want  string // nothing for an error
	}{
		{Token{Chars, "", 0}, "''"},
		{Token{Chars, "\\'\"\n\t\r\x00\x7f\xaf~ a", -5}, `'\\\'"\n\t\x0d\x00\x7f\xaf~ a'`},
		{Token{Chars, long("c", 50000), 0}, "'" + long("c", 50000) + "'"},
		{Token{Quoted, "a", 0}, `"a"`},
		{Token{Quoted, `\"'n`, 0}, `"\\\"'n"`},
		{Token{Quoted, long("w", 60), 0}, `"` + long("w", 60) + `"`},
		{Token{Quoted, "", 0}, ""},
		{Token{Quoted, long("w", 61), 0}, ""},
		{Token{Quoted, "\n", 0}, ""},
		{Token{Quoted, "\x7f", 0}, ""},
		{Token{Name, "a-B_9", 0}, "a-B_9"},
		{Token{Name, long("n", 60), 0}, long("n", 60)},
		{Token{Name, long("n", 61), 0}, ""},
		{Token{Name, "", 0}, ""},
		{Token{Name, "9a", 0}, ""},
		{Token{Name, "a.b", 0}, ""},
		{Token{Number, "0", 0}, "0"},
		{Token{Number, "-15", 0}, "-15"},
		{Token{Number, "-0", 0}, ""},
		{Token{Number, "", 0}, ""},
		{Token{Number, "-", 0}, ""},
		{Token{Number, "1a", 0}, ""},
		{Token{Variable, "s.1", 0}, "s.1"},
		{Token{Variable, "t." + long("v", 40), 0}, "t." + long("v", 40)},
		{Token{Variable, "t." + long("v", 41), 0}, ""},
		{Token{Variable, "e.", 0}, ""},
		{Token{Variable, "e", 0}, ""},
		{Token{Variable, "x.1", 0}, ""},
		{Token{Variable, "e.a-b", 0}, ""},
		{Token{Sign, "{", 0}, "{"},
		{Token{Sign, "", 0}, ""},
		{Token{Sign, "()", 0}, ""},
		{Token{Sign, ".", 0}, ""},
		{Token{Keyword, "$ENTRY", 0}, "$ENTRY"},
		{Token{Keyword, "$EXTERN", 0}, "$EXTERN"},
		{Token{Keyword, "$Entry", 0}, ""},
		{Token{Keyword, "ENTRY", 0}, ""},
		{Token{0, "a", 0}, ""},
		{Token{8, "a", 0}, ""},
		{Token{-1, "", 0}, ""},
	} {
		want := api.OK
		if c.want == "" {
			want = api.ErrForm
		}
		if e := Check(c.token); e != want {
			t.Errorf("Check(%v) = %v, want %v", c.token, e, want)
		}
		if s, e := Write(c.token); s != c.want || e != want {
			t.Errorf("Write(%v) = %s, %v, want %s, %v", c.token, s, e, c.want, want)
		}
	}
	for sign := range 256 {
		s := string([]byte{byte(sign)})
		if (Check(Token{Kind: Sign, Text: s}) == api.OK) != strings.Contains("()<>{}=,:;", s) {
			t.Errorf("Check of the sign %q", s)
		}
	}
}

func TestJoin(t *testing.T) {
	f, x, n, k := Token{Name, "F", 7}, Token{Variable, "e.x", 7}, Token{Number, "-1", 7}, Token{Keyword, "$ENTRY", 7}
	c, q, s := Token{Chars, "a", 7}, Token{Quoted, "b", 7}, Token{Sign, "(", 7}
	bare := []Token{f, x, n, k}
	marked := []Token{c, q, s}
	for _, a := range append(bare, marked...) {
		for _, b := range append(bare, marked...) {
			want := ""
			if slices.Contains(bare, a) && slices.Contains(bare, b) {
				want = " "
			}
			left, _ := Write(a)
			right, _ := Write(b)
			if got, e := Join([]Token{a, b}); got != left+want+right || e != api.OK {
				t.Errorf("Join(%v, %v) = %q, %v", a, b, got, e)
			}
		}
	}
	if s, e := Join(nil); s != "" || e != api.OK {
		t.Errorf("Join of nothing = %q, %v", s, e)
	}
	if s, e := Join([]Token{f, {Name, "1", 0}, {9, "", 0}}); s != "" || e != api.ErrForm {
		t.Errorf("Join with a wrong token = %q, %v", s, e)
	}
	if s, e := Join([]Token{{Chars, long("c", 39998), 0}}); len(s) != 40000 || e != api.OK {
		t.Errorf("Join of as much as may be = %d bytes, %v", len(s), e)
	}
	if s, e := Join([]Token{{Chars, long("c", 39999), 0}}); s != "" || e != api.ErrLarge {
		t.Errorf("Join of too much = %d bytes, %v", len(s), e)
	}
	if s, e := Join([]Token{{Chars, long("c", 50000), 0}, {Name, "", 0}}); s != "" || e != api.ErrForm {
		t.Errorf("Join of too much with a wrong token = %d bytes, %v", len(s), e)
	}
}

func TestClasses(t *testing.T) {
	for _, c := range []struct {
		s                  string
		name, word, number bool
	}{
		{"", false, false, false},
		{"a", true, true, false},
		{"Z-_9", true, true, false},
		{"-", false, true, false},
		{"_a", false, true, false},
		{"0", false, true, true},
		{"10", false, true, true},
		{"-10", false, true, true},
		{"-0", false, true, false},
		{"01", false, true, false},
		{"+1", false, true, false},
		{"--1", false, true, false},
		{"1.", false, true, false},
		{" ", false, true, false},
		{"~", false, true, false},
		{"\x1f", false, false, false},
		{"a\x7f", false, false, false},
		{"a\n", false, false, false},
		{"é", false, false, false},
		{long("a", 60), true, true, false},
		{long("a", 61), false, false, false},
		{long("1", 60), false, true, true},
		{long("1", 500), false, false, true},
		{"-" + long("1", 500), false, false, true},
		{long("1", 501), false, false, false},
	} {
		if IsName(c.s) != c.name || IsWord(c.s) != c.word || IsNumber(c.s) != c.number {
			t.Errorf("%q: IsName %v, IsWord %v, IsNumber %v", c.s, IsName(c.s), IsWord(c.s), IsNumber(c.s))
		}
	}
}

func TestPlace(t *testing.T) {
	text := "ab\n\ncd"
	for at, want := range [][2]int{{1, 1}, {1, 2}, {1, 3}, {2, 1}, {3, 1}, {3, 2}, {3, 3}} {
		if line, column, e := Place(text, at); line != want[0] || column != want[1] || e != api.OK {
			t.Errorf("Place(%d) = %d, %d, %v, want %v", at, line, column, e, want)
		}
	}
	for _, at := range []int{-1, 7, 1 << 40, -1 << 40} {
		if line, column, e := Place(text, at); line != 0 || column != 0 || e != api.ErrRange {
			t.Errorf("Place(%d) = %d, %d, %v", at, line, column, e)
		}
	}
	if line, column, e := Place("", 0); line != 1 || column != 1 || e != api.OK {
		t.Errorf("Place of nothing = %d, %d, %v", line, column, e)
	}
	if line, column, e := Place(long("\n", 50000), 50000); line != 50001 || column != 1 || e != api.OK {
		t.Errorf("Place of a large text = %d, %d, %v", line, column, e)
	}
}

func TestStrip(t *testing.T) {
	for s, want := range map[string]string{
		"":                      "",
		"a b":                   "a b",
		"* x\r\n\na":            "    \n\na",
		"a/* x\n\r\x80 */b":     "a    \n     b",
		"'/* a */' /* a */ 'b'": "'/* a */'         'b'",
		"a\n*'\n*":              "a\n  \n ",
	} {
		if got, at, e := Strip(s); got != want || at != 0 || e != api.OK {
			t.Errorf("Strip(%q) = %q, %d, %v, want %q", s, got, at, e, want)
		}
	}
}

func TestScanOfJoin(t *testing.T) {
	r := rand.New(rand.NewSource(1))
	gaps := []string{" ", "\n", "\t\r ", "/**/", " /* 'x \n*/", "\n* a line 'x /*\n"}
	for range 3000 {
		var l []Token
		var spread strings.Builder
		for range r.Intn(8) {
			u := sample(r)
			l = append(l, u)
			s, _ := Write(u)
			spread.WriteString(s + gaps[r.Intn(len(gaps))])
		}
		joined, e := Join(l)
		if e != api.OK {
			t.Fatalf("Join(%v) = %v", l, e)
		}
		for _, s := range []string{joined, spread.String()} {
			if back, at, e := Scan(s); !sameTokens(l, back) || e != api.OK {
				t.Fatalf("Scan(%q) = %v, %d, %v, want %v", s, back, at, e, l)
			}
		}
	}
}

// chance returns a text of parts that tokens, comments and errors are made of.
func chance(r *rand.Rand) string {
	parts := []string{"'", `"`, `\`, "a", "F-1", "s.", "e.1", " ", "(", "}", "<", ";", "0", "12", "-", "_", ".", "\n", `\x41`, "'b'", "\"c\"", "/*", "*/", "*", "$ENTRY", "$", "\x80", "\r"}
	var b strings.Builder
	for range r.Intn(9) {
		b.WriteString(parts[r.Intn(len(parts))])
	}
	return b.String()
}

func TestPlacesOfTokens(t *testing.T) {
	r := rand.New(rand.NewSource(2))
	for range 20000 {
		s := chance(r)
		l, at, e := Scan(s)
		stripped, at2, e2 := Strip(s)
		if e != e2 || at != at2 {
			t.Fatalf("Scan(%q) has %d, %v; Strip %d, %v", s, at, e, at2, e2)
		}
		if e != api.OK {
			if at < 0 || at >= len(s) || e < ErrByte || e > ErrKeyword {
				t.Fatalf("Scan(%q) = %d, %v", s, at, e)
			}
			continue
		}
		end := 0
		for _, u := range l {
			first := map[int]string{Chars: "'", Quoted: `"`}[u.Kind]
			if first == "" {
				first = u.Text
			}
			if u.At < end || !strings.HasPrefix(s[u.At:], first) {
				t.Fatalf("Scan(%q): %v is not there", s, u)
			}
			end = u.At + len(first)
		}
		again, _, _ := Scan(stripped)
		if !slices.Equal(l, again) || len(s) != len(stripped) || strings.Count(s, "\n") != strings.Count(stripped, "\n") {
			t.Fatalf("Strip(%q) = %q", s, stripped)
		}
		for i := range s {
			if s[i] != stripped[i] && (stripped[i] != ' ' || s[i] == '\n') {
				t.Fatalf("Strip(%q) = %q", s, stripped)
			}
		}
	}
}

func TestPrefix(t *testing.T) {
	r := rand.New(rand.NewSource(3))
	for range 10000 {
		s := chance(r)
		l, _, e := Scan(s)
		if e != api.OK {
			continue
		}
		for i, u := range l {
			ahead, _, e := Scan(s[:u.At])
			if e != api.OK || !slices.Equal(ahead, l[:i]) {
				t.Fatalf("Scan(%q) = %v, %v, want %v", s[:u.At], ahead, e, l[:i])
			}
		}
	}
}
