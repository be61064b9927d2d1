package syntax

import (
	"math/rand"
	"slices"
	"strings"
	"testing"

	"chiasmus/api"
	"chiasmus/term"
	"chiasmus/token"
)

var long = strings.Repeat

func parsed(t *testing.T, s string) []api.Term {
	t.Helper()
	l, at, e := term.Parse(s)
	if e != api.OK {
		t.Fatalf("Parse(%q) = %d, %v", s, at, e)
	}
	return l
}

func read(t *testing.T, s string) Module {
	t.Helper()
	m, at, e := Read(s)
	if e != api.OK || at != 0 {
		t.Fatalf("Read(%q) = %d, %v", s, at, e)
	}
	return m
}

// sentenceOf returns a sentence with a pattern and a result.
func sentenceOf(t *testing.T, left, right string) api.Sentence {
	t.Helper()
	return api.Sentence{Left: parsed(t, left), Right: parsed(t, right)}
}

func TestRead(t *testing.T) {
	plain := sentenceOf(t, "", "")
	for s, want := range map[string]Module{
		"":                              {},
		" /* nothing */ ":               {},
		"$EXTERN A;":                    {Externs: []string{"A"}},
		"$EXTERN A,B , A;$EXTERN C;":    {Externs: []string{"A", "B", "A", "C"}},
		"F{=}":                          {Functions: []api.Function{{Name: "F", Sentences: []api.Sentence{plain}}}},
		"F{=;}":                         {Functions: []api.Function{{Name: "F", Sentences: []api.Sentence{plain}}}},
		"$ENTRY F{=;=}":                 {Functions: []api.Function{{Name: "F", Entry: true, Sentences: []api.Sentence{plain, plain}}}},
		"F{=}$EXTERN A;$ENTRY F{=}":     {Externs: []string{"A"}, Functions: []api.Function{{Name: "F", Sentences: []api.Sentence{plain}}, {Name: "F", Entry: true, Sentences: []api.Sentence{plain}}}},
		long("f", 40) + "{ A = <B(C)>}": {Functions: []api.Function{{Name: long("f", 40), Sentences: []api.Sentence{sentenceOf(t, "A", "<B (C)>")}}}},
		`F { 'ab' "x y" z -3 s.1 t.2 e.3 (()) = '' "'" <G <H>> ; }`: {Functions: []api.Function{{Name: "F", Sentences: []api.Sentence{
			sentenceOf(t, `'ab' "x y" z -3 s.1 t.2 e.3 (())`, `"'" <G <H>>`)}}}},
		"F { e.1, <G e.1> : t.2, : , (e.1) : (e.3) = e.3 }": {Functions: []api.Function{{Name: "F", Sentences: []api.Sentence{{
			Left: parsed(t, "e.1"), Right: parsed(t, "e.3"),
			Tests: []api.Test{{Expr: parsed(t, "<G e.1>"), Pattern: parsed(t, "t.2")}, {}, {Expr: parsed(t, "(e.1)"), Pattern: parsed(t, "(e.3)")}},
		}}}}},
		"F { e.1, a : b, <G e.1> : { = c; d, e : { f = ; } } }": {Functions: []api.Function{{Name: "F", Sentences: []api.Sentence{{
			Left: parsed(t, "e.1"), Subject: parsed(t, "<G e.1>"), Tests: []api.Test{{Expr: parsed(t, "a"), Pattern: parsed(t, "b")}},
			Block: []api.Sentence{sentenceOf(t, "", "c"), {Left: parsed(t, "d"), Subject: parsed(t, "e"), Block: []api.Sentence{sentenceOf(t, "f", "")}}},
		}}}}},
		"F { , : { = }; = }": {Functions: []api.Function{{Name: "F", Sentences: []api.Sentence{{Block: []api.Sentence{plain}}, plain}}}},
	} {
		m, at, e := Read(s)
		if e != api.OK || at != 0 || !Equal(m, want) {
			t.Errorf("Read(%q) = %v, %d, %v, want %v", s, m, at, e, want)
		}
		p, at, e := Program(s)
		if len(want.Externs) > 0 {
			if e != api.ErrArgument || at != 0 || len(p.Functions) != 0 {
				t.Errorf("Program(%q) = %v, %d, %v", s, p, at, e)
			}
		} else if e != api.OK || at != 0 || !Equal(Module{Functions: p.Functions}, want) {
			t.Errorf("Program(%q) = %v, %d, %v, want %v", s, p, at, e, want)
		}
	}
}

// blocks returns a sentence with so many blocks within each other.
func blocks(n int) string { return long(", : { ", n) + "=" + long(" }", n) }

func TestCodes(t *testing.T) {
	for i, e := range []api.Errno{ErrToken, ErrEnd, ErrCall, ErrEmpty, ErrNested} {
		if e != api.Errno(50+i) {
			t.Errorf("the code %d is %v", 50+i, e)
		}
	}
}

func TestReadErrors(t *testing.T) {
	type fail struct {
		at int
		e  api.Errno
	}
	many := long("a ", 4001)
	for s, want := range map[string]fail{
		// those of the scanner come first
		"F { <G> = ; } 'x": {14, token.ErrQuote},
		"} a.b":            {3, token.ErrNear},
		"F { = ; } /*":     {10, token.ErrComment},
		long(" ", 40001):   {0, api.ErrLarge},

		"F { }":               {4, ErrEmpty},
		"F { ; = }":           {4, ErrEmpty},
		"F { , a : { } }":     {12, ErrEmpty},
		"F { , a : { ; = } }": {12, ErrEmpty},
		"$ENTRY F{}":          {9, ErrEmpty},
		"F { = ; , : {}":      {13, ErrEmpty},

		"F { <G> = ; }":               {4, ErrCall},
		"F { a (b <G>) = ; }":         {9, ErrCall},
		"F { = ; <":                   {8, ErrCall},
		"F { , a : <G> = ; }":         {10, ErrCall},
		"F { , a : { b <G> = ; } }":   {14, ErrCall},
		"F { " + long("(", 100) + "<": {104, ErrCall},
		"F { " + many + "<":           {4 + 8002, ErrCall},

		"F { " + long("(", 101):                         {104, ErrNested},
		"F { = " + long("(", 101):                       {106, ErrNested},
		"F { = " + long("(<F ", 50) + "(":               {206, ErrNested},
		"F { = " + long("<F ", 100) + "<":               {306, ErrNested},
		"F { " + long(", : { ", 7):                      {4 + 6*6 + 4, ErrNested},
		"F { = ; " + long(", : { = ; ", 6) + ", : { = ": {8 + 6*10 + 4, ErrNested},

		"F { " + many + "= ; }":            {4 + 8002, api.ErrCount},
		"F { " + many + "; }":              {4 + 8002, api.ErrCount},
		"F { " + many:                      {4 + 8002, api.ErrCount},
		"F { " + many + "  ":               {4 + 8004, api.ErrCount},
		"F { = " + many + "} x.":           {6 + 8002 + 3, token.ErrNear},
		"F { = " + many + ")":              {6 + 8002, api.ErrCount},
		"F { = " + many + "}":              {6 + 8002, api.ErrCount},
		"F { , " + many + ":":              {6 + 8002, api.ErrCount},
		"F { , : " + many + "=":            {8 + 8002, api.ErrCount},
		"F { = (" + many + ");":            {7 + 8003, api.ErrCount},
		"F { = <G " + many + ">;":          {9 + 8003, api.ErrCount},
		"F { = '" + long("a", 4001) + "' ": {8 + 4001 + 1, api.ErrCount},
		"F { = (" + many:                   {7 + 8002, ErrEnd},
		"F { = (" + many + ";":             {7 + 8002, ErrToken},

		"F { e.1 }":                       {8, ErrToken},
		"F { e.1 ; }":                     {8, ErrToken},
		"F { = ;; }":                      {7, ErrToken},
		"F { = ; ; }":                     {8, ErrToken},
		"F { = = ; }":                     {6, ErrToken},
		"F { = , ; }":                     {6, ErrToken},
		"F { : a = ; }":                   {4, ErrToken},
		"F { , a = ; }":                   {8, ErrToken},
		"F { , a , b : c = ; }":           {8, ErrToken},
		"F { , a : b : c = ; }":           {12, ErrToken},
		"F { , a : b { = } }":             {12, ErrToken},
		"F { , a : b ; }":                 {12, ErrToken},
		"F { , { = } }":                   {6, ErrToken},
		"F { { = } }":                     {4, ErrToken},
		"F { , a : { = } = b }":           {16, ErrToken},
		"F { , a : { = } , b : c }":       {16, ErrToken},
		"F { , a : { = } a }":             {16, ErrToken},
		"F { = ) }":                       {6, ErrToken},
		"F { = (a> }":                     {8, ErrToken},
		"F { = <G a) }":                   {10, ErrToken},
		"F { = <> }":                      {7, ErrToken},
		"F { = <'G'> }":                   {7, ErrToken},
		"F { = <(G)> }":                   {7, ErrToken},
		"F { = <\"G\"> }":                 {7, ErrToken},
		"F { = <s.x> }":                   {7, ErrToken},
		"F { = <" + long("g", 41) + "> }": {7, ErrToken},
		"F { = $ENTRY }":                  {6, ErrToken},
		"F { = { } }":                     {6, ErrToken},
		"F { = } }":                       {8, ErrToken},
		"F { = } ;":                       {8, ErrToken},
		"F F { = }":                       {2, ErrToken},
		"F = ":                            {2, ErrToken},
		"F ( = )":                         {2, ErrToken},
		"'F' { = }":                       {0, ErrToken},
		"\"F\" { = }":                     {0, ErrToken},
		"s.F { = }":                       {0, ErrToken},
		"1 { = }":                         {0, ErrToken},
		"{ = }":                           {0, ErrToken},
		long("f", 41) + " { = }":          {0, ErrToken},
		"$ENTRY " + long("f", 41):         {7, ErrToken},
		"$ENTRY { = }":                    {7, ErrToken},
		"$ENTRY $ENTRY F { = }":           {7, ErrToken},
		"$ENTRY $EXTERN F;":               {7, ErrToken},
		"$EXTERN ;":                       {8, ErrToken},
		"$EXTERN A,;":                     {10, ErrToken},
		"$EXTERN A B;":                    {10, ErrToken},
		"$EXTERN A, 'B';":                 {11, ErrToken},
		"$EXTERN " + long("f", 41):        {8, ErrToken},
		"$EXTERN A { = }":                 {10, ErrToken},

		"F":                {1, ErrEnd},
		"F ":               {2, ErrEnd},
		"F { ":             {4, ErrEnd},
		"F { e.1 = ":       {10, ErrEnd},
		"F { e.1 = ; /**/": {16, ErrEnd},
		"F { (":            {5, ErrEnd},
		"F { = <":          {7, ErrEnd},
		"F { = <G":         {8, ErrEnd},
		"F { ,":            {5, ErrEnd},
		"F { , a":          {7, ErrEnd},
		"F { , a :":        {9, ErrEnd},
		"F { , a : b":      {11, ErrEnd},
		"F { , a : {":      {11, ErrEnd},
		"F { , a : { = }":  {15, ErrEnd},
		"$ENTRY":           {6, ErrEnd},
		"$EXTERN":          {7, ErrEnd},
		"$EXTERN A":        {9, ErrEnd},
		"$EXTERN A,":       {10, ErrEnd},
	} {
		m, at, e := Read(s)
		if at != want.at || e != want.e || !Equal(m, Module{}) {
			t.Errorf("Read(%.60q) = %d, %v, want %v", s, at, e, want)
		}
		p, at, e := Program(s)
		if at != want.at || e != want.e || len(p.Functions) != 0 {
			t.Errorf("Program(%.60q) = %d, %v, want %v", s, at, e, want)
		}
	}
}

func TestReadLimits(t *testing.T) {
	for _, s := range []string{
		"F { " + blocks(6) + " }",
		"F { " + blocks(6) + "; " + blocks(6) + " } G { " + blocks(6) + "}",
		"F { " + long("(", 100) + long(")", 100) + " = " + long("(", 100) + long(")", 100) + " }",
		"F { = " + long("<G ", 100) + long(">", 100) + " }",
		"F { " + long("a ", 4000) + "= " + long("a ", 4000) + "}",
		"F { = (" + long("a ", 3999) + ") }",
		"F { = " + long("w", 60) + " }",
	} {
		if e := Form(read(t, s)); e != api.OK {
			t.Errorf("Form of %.60q = %v", s, e)
		}
	}
}

func TestReadSentence(t *testing.T) {
	for s, want := range map[string]string{
		"=":                                     "=",
		"a=b":                                   "a = b",
		" e.1, <F e.1>: t.2, e.1 :{ A = B;=;} ": "e.1 , <F e.1> : t.2 , e.1 : { A = B; = }",
		"/* x */ (a) = <F(b)'c''d'>":            "(a) = <F (b) 'cd'>",
		blocks(6):                               ", : { , : { , : { , : { , : { , : { = } } } } } }",
	} {
		u, at, e := ReadSentence(s)
		if e != api.OK || at != 0 {
			t.Errorf("ReadSentence(%q) = %d, %v", s, at, e)
		}
		if got, e := Sentence(u); got != want || e != api.OK {
			t.Errorf("Sentence of %q = %q, %v, want %q", s, got, e, want)
		}
	}
	type fail struct {
		at int
		e  api.Errno
	}
	for s, want := range map[string]fail{
		"":                            {0, ErrEnd},
		"  ":                          {2, ErrEnd},
		"a":                           {1, ErrEnd},
		"=;":                          {1, ErrToken},
		"= }":                         {2, ErrToken},
		"= =":                         {2, ErrToken},
		";":                           {0, ErrToken},
		"}":                           {0, ErrToken},
		", : { = } ;":                 {10, ErrToken},
		", : { }":                     {6, ErrEmpty},
		"<F>":                         {0, ErrCall},
		"= 'a":                        {2, token.ErrQuote},
		long(", : { ", 7):             {6*6 + 4, ErrNested},
		"= " + long("a ", 4001):       {8004, api.ErrCount},
		"= " + long("a ", 4001) + ";": {8004, api.ErrCount},
		"= " + long("a ", 4000) + ";": {8002, ErrToken},
	} {
		u, at, e := ReadSentence(s)
		if at != want.at || e != want.e || !equalSentences(u, api.Sentence{}) {
			t.Errorf("ReadSentence(%.60q) = %v, %d, %v, want %v", s, u, at, e, want)
		}
	}
}

func TestEqual(t *testing.T) {
	texts := []string{
		"", "$EXTERN A;", "$EXTERN B;", "$EXTERN A, B;", "$EXTERN B, A;",
		"F { = }", "G { = }", "$ENTRY F { = }", "F { = ; = }", "F { = } G { = }",
		"F { a = }", "F { = a }", "F { , a : = }", "F { , : a = }", "F { , : = }", "F { , : , : = }",
		"F { , : { = } }", "F { , a : { = } }", "F { , : { = ; = } }", "F { , : { a = } }", "F { , : { , : { = } } }",
	}
	for i, s := range texts {
		for j, u := range texts {
			if Equal(read(t, s), read(t, u)) != (i == j) {
				t.Errorf("Equal of %q and %q", s, u)
			}
		}
	}
	a := Module{Externs: []string{}, Functions: []api.Function{{Sentences: []api.Sentence{{Left: []api.Term{}, Tests: []api.Test{}, Block: []api.Sentence{}}}}}}
	b := Module{Functions: []api.Function{{Sentences: []api.Sentence{{}}}}}
	if !Equal(a, b) || !Equal(Module{Functions: []api.Function{}}, Module{}) {
		t.Error("empty lists are equal to none")
	}
}

// chance returns a text of parts of modules.
func chance(r *rand.Rand) string {
	parts := []string{"F", "$ENTRY F", "{", "}", "F {", "=", "=", ";", ",", ":", ", a :", "<", ">", "<F", "(", ")", "'ab'", "\"x y\"", "-1", "s.1", "e.x", "$EXTERN", "/* x */"}
	var l []string
	for range 1 + r.Intn(6) {
		l = append(l, parts[r.Intn(len(parts))])
	}
	return "F { " + strings.Join(l, " ") + []string{" }", " ; }", " = }", "> }", ") }", ""}[r.Intn(6)]
}

func TestReadIsRight(t *testing.T) {
	r := rand.New(rand.NewSource(1))
	right := 0
	for range 40000 {
		s := chance(r)
		m, at, e := Read(s)
		if e != api.OK {
			if at < 0 || at > len(s) || !Equal(m, Module{}) {
				t.Fatalf("Read(%q) = %v, %d, %v", s, m, at, e)
			}
			continue
		}
		right++
		if e := Form(m); e != api.OK {
			t.Fatalf("Form of %q = %v", s, e)
		}
		text, _ := Write(m)
		if !Equal(read(t, text), m) {
			t.Fatalf("Write of %q = %q", s, text)
		}
		stripped, _, _ := token.Strip(s)
		if !Equal(read(t, stripped), m) {
			t.Fatalf("%q has another module without its comments", s)
		}
	}
	if right < 500 {
		t.Errorf("only %d texts were right", right)
	}
}

// The error of a text is where its beginnings stop to be ones of right texts.
func TestErrorsStandAtTheirTokens(t *testing.T) {
	r := rand.New(rand.NewSource(2))
	for range 10000 {
		s := chance(r)
		_, at, e := Read(s)
		if e == api.OK || e == ErrEnd {
			continue
		}
		l, _, _ := token.Scan(s)
		if !slices.ContainsFunc(l, func(u token.Token) bool { return u.At == at }) {
			t.Fatalf("Read(%q) = %d, %v: no token is there", s, at, e)
		}
		if _, end, e := Read(s[:at]); e != api.OK && (e != ErrEnd || end != at) {
			t.Fatalf("Read(%q) = %d, %v, but the text ahead is wrong at %d: %v", s, at, e, end, e)
		}
	}
}
