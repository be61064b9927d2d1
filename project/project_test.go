package project

import (
	"math"
	"slices"
	"strconv"
	"strings"
	"testing"

	"chiasmus/api"
	"chiasmus/term"
)

func parsed(t *testing.T, s string) []api.Term {
	t.Helper()
	l, at, e := term.Parse(s)
	if e != api.OK {
		t.Fatalf("Parse(%q) = %d, %v", s, at, e)
	}
	return l
}

// plan returns the plan of the pattern with a text.
func plan(t *testing.T, pattern string, given ...string) Plan {
	t.Helper()
	p, e := Compile(parsed(t, pattern), given)
	if e != api.OK {
		t.Fatalf("Compile(%s, %v) = %v", pattern, given, e)
	}
	return p
}

// opsOf returns a text of operations: the hole, the end, the kind, and the symbol or the variable of each one.
func opsOf(p Plan) string {
	var l []string
	for _, o := range p.Ops {
		s := strconv.Itoa(o.Hole)
		if o.Right {
			s += "r"
		}
		s += []string{"?", "symbol", "enter", "takeS", "takeT", "known", "empty", "close", "open"}[o.Kind] + " " + o.Var
		if o.Symbol.Kind != 0 {
			text, _ := term.Text([]api.Term{o.Symbol})
			s += text
		}
		l = append(l, strings.TrimSpace(s))
	}
	return strings.Join(l, ", ")
}

// binding returns the binding of a variable to the value with a text.
func binding(t *testing.T, variable, value string) api.Binding {
	return api.Binding{Var: variable, Value: parsed(t, value)}
}

// bindings returns the bindings with a text: variables, each one with the text of its value behind it.
func bindings(t *testing.T, l ...string) []api.Binding {
	t.Helper()
	var b []api.Binding
	for i := 0; i+1 < len(l); i += 2 {
		b = append(b, binding(t, l[i], l[i+1]))
	}
	return b
}

func textOf(l []api.Binding) string {
	var b strings.Builder
	for _, x := range l {
		s, _ := term.Text(x.Value)
		b.WriteString(x.Var + "=" + s + ";")
	}
	return b.String()
}

func TestCompile(t *testing.T) {
	for _, c := range []struct {
		pattern string
		given   []string
		want    string
	}{
		{"e.1 'a' e.2 s.3", nil, "0rtakeS s.3, 0open e.1, 0symbol 'a', 0close e.2"},
		{"s.1 e.2 s.1", nil, "0takeS s.1, 0rknown s.1, 0close e.2"},
		{"(e.1) e.2", nil, "0enter, 1close e.1, 0close e.2"},
		{"", nil, "0empty"},
		{"e.1", nil, "0close e.1"},
		{"'a' B 1", nil, "0symbol 'a', 0symbol B, 0symbol 1, 0empty"},
		{"t.1 t.1 s.2", nil, "0takeT t.1, 0known t.1, 0takeS s.2, 0empty"},
		{"()", nil, "0enter, 1empty, 0empty"},
		{"e.1 t.2 'a'", nil, "0rsymbol 'a', 0rtakeT t.2, 0close e.1"},
		{"e.1 e.2", nil, "0open e.1, 0close e.2"},
		{"e.1 e.1", nil, "0open e.1, 0known e.1, 0empty"},
		{"e.1 e.2 e.1", nil, "0open e.1, 0rknown e.1, 0close e.2"},
		{"e.1 e.2 e.3", nil, "0open e.1, 0open e.2, 0close e.3"},
		{"e.1 (e.2 e.3)", nil, "0renter, 0close e.1, 1open e.2, 1close e.3"},
		{"e.1 e.2 (e.1)", nil, "0renter, 1close e.1, 0known e.1, 0close e.2"},
		{"e.1 e.2 (e.2)", nil, "0renter, 1close e.2, 0rknown e.2, 0close e.1"},
		{"(e.1 e.2) (e.3 'x')", nil, "0enter, 0enter, 2rsymbol 'x', 2close e.3, 0empty, 1open e.1, 1close e.2"},
		{"(e.1 e.2) e.3 (e.4 e.5)", nil, "0enter, 0renter, 0close e.3, 1open e.1, 1close e.2, 2open e.4, 2close e.5"},
		{"(e.1 (e.2 e.3) e.4) s.5", nil, "0enter, 0takeS s.5, 0empty, 1open e.1, 1enter, 1close e.4, 2open e.2, 2close e.3"},
		{"e.1 (('a')) e.2", nil, "0open e.1, 0enter, 1enter, 2symbol 'a', 2empty, 1empty, 0close e.2"},
		{"e.1 ('a' (e.3 e.4)) (s.5)", nil, "0renter, 0renter, 0close e.1, 2symbol 'a', 2enter, 2empty, 1takeS s.5, 1empty, 3open e.3, 3close e.4"},
		{"e.1", []string{"e.1"}, "0known e.1, 0empty"},
		{"e.1 e.2", []string{"e.1"}, "0known e.1, 0close e.2"},
		{"e.1 e.2", []string{"e.2", "s.x"}, "0rknown e.2, 0close e.1"},
		{"s.1 t.2 e.3", []string{"e.3", "s.1", "t.2"}, "0known s.1, 0known t.2, 0known e.3, 0empty"},
		{"s.1 t.1 e.1", []string{"t.1"}, "0takeS s.1, 0known t.1, 0close e.1"},
	} {
		p, e := Compile(parsed(t, c.pattern), c.given)
		if got := opsOf(p); got != c.want || e != api.OK || !slices.Equal(p.Given, c.given) {
			t.Errorf("Compile(%s, %v) = %v, %s, %v, want %s", c.pattern, c.given, p.Given, got, e, c.want)
		}
	}
}

func TestCompileErrors(t *testing.T) {
	many := make([]string, 4001)
	deep := parsed(t, strings.Repeat("(", 100)+strings.Repeat(")", 100))
	for _, c := range []struct {
		pattern []api.Term
		given   []string
		want    api.Errno
	}{
		{make([]api.Term, 4001), many, api.ErrCount},
		{[]api.Term{{Kind: api.Group, Kids: deep}}, many, api.ErrDepth},
		{parsed(t, "<F>"), many, api.ErrForm},
		{nil, many, api.ErrCount},
		{nil, []string{"x"}, api.ErrForm},
		{nil, []string{""}, api.ErrForm},
		{nil, []string{"s."}, api.ErrForm},
		{nil, []string{"e.a-b"}, api.ErrForm},
		{nil, []string{"e." + strings.Repeat("x", 41)}, api.ErrForm},
		{nil, []string{"e.1", "e.1", "x"}, api.ErrDuplicate},
		{nil, []string{"e.1", "x", "e.1"}, api.ErrForm},
	} {
		if p, e := Compile(c.pattern, c.given); len(p.Ops) != 0 || len(p.Given) != 0 || e != c.want {
			t.Errorf("Compile(%v, %v) = %v, %v, want %v", c.pattern, c.given, p, e, c.want)
		}
	}
	most := many[:4000]
	for i := range most {
		most[i] = "s." + strconv.Itoa(i)
	}
	if p, e := Compile(nil, most); len(p.Given) != 4000 || e != api.OK || Check(p) != api.OK {
		t.Errorf("Compile with 4000 given = %v", e)
	}
	p := plan(t, strings.Repeat("() ", 4000))
	if len(p.Ops) != 8001 || Check(p) != api.OK {
		t.Errorf("the plan of 4000 groups has %d operations", len(p.Ops))
	}
	if l, e := Pattern(p); len(l) != 4000 || e != api.OK {
		t.Errorf("Pattern of 4000 groups = %d terms, %v", len(l), e)
	}
}

// The plan keeps nothing of its arguments, and they are left as they are.
func TestCompileMemory(t *testing.T) {
	pattern, given := parsed(t, "e.1 ('a' e.2) 'b' s.3"), []string{"e.2", "e.9"}
	p, _ := Compile(pattern, given)
	if s, _ := term.Text(pattern); s != "e.1 ('a' e.2) 'b' s.3" {
		t.Errorf("Compile leaves %s", s)
	}
	ops := opsOf(p)
	pattern[2].Text, pattern[1].Kids[0].Text, given[0] = "x", "x", "e.x"
	if opsOf(p) != ops || p.Given[0] != "e.2" {
		t.Errorf("a plan changed: %v", p)
	}
}

func TestCheck(t *testing.T) {
	zero, a := api.Term{}, api.Term{Kind: api.Char, Text: "a"}
	empty := Op{Kind: Empty}
	for name, c := range map[string]struct {
		p    Plan
		want api.Errno
	}{
		"nothing":             {Plan{}, ErrPlan},
		"empty":               {Plan{Ops: []Op{empty}}, api.OK},
		"symbol":              {Plan{Ops: []Op{{Kind: Symbol, Symbol: a}, {Kind: Symbol, Right: true, Symbol: a}, empty}}, api.OK},
		"symbol with no kids": {Plan{Ops: []Op{{Kind: Symbol, Symbol: api.Term{Kind: api.Word, Text: "a", Kids: []api.Term{}}}, empty}}, api.OK},
		"enter with no kids":  {Plan{Ops: []Op{{Kind: Enter, Symbol: api.Term{Kids: []api.Term{}}}, {Kind: Empty, Hole: 1}, empty}}, api.OK},
		"open twice":          {Plan{Ops: []Op{{Kind: Open, Var: "e.1"}, {Kind: Open, Var: "e.2"}, empty}}, api.OK},
		"known of all":        {Plan{Given: []string{"s.1", "t.1", "e.1"}, Ops: []Op{{Kind: Known, Var: "s.1"}, {Kind: Known, Right: true, Var: "t.1"}, {Kind: Known, Var: "e.1"}, empty}}, api.OK},
		"known of taken":      {Plan{Ops: []Op{{Kind: TakeS, Var: "s.1"}, {Kind: TakeT, Var: "t.1"}, {Kind: Open, Var: "e.1"}, {Kind: Known, Var: "s.1"}, {Kind: Known, Var: "t.1"}, {Kind: Known, Var: "e.1"}, {Kind: Close, Var: "e.2"}}}, api.OK},
		"known of closed":     {Plan{Ops: []Op{{Kind: Enter}, {Kind: Close, Hole: 1, Var: "e.1"}, {Kind: Known, Var: "e.1"}, empty}}, api.OK},

		"kind 0":                        {Plan{Ops: []Op{{}, empty}}, ErrPlan},
		"kind 9":                        {Plan{Ops: []Op{{Kind: 9}, empty}}, ErrPlan},
		"kind -1":                       {Plan{Ops: []Op{{Kind: -1}, empty}}, ErrPlan},
		"hole -1":                       {Plan{Ops: []Op{{Kind: Symbol, Hole: -1, Symbol: a}, empty}}, ErrPlan},
		"hole 1":                        {Plan{Ops: []Op{{Kind: Symbol, Hole: 1, Symbol: a}, empty}}, ErrPlan},
		"a hole that comes later":       {Plan{Ops: []Op{{Kind: Empty, Hole: 1}, {Kind: Enter}, empty}}, ErrPlan},
		"behind empty":                  {Plan{Ops: []Op{empty, {Kind: Symbol, Symbol: a}}}, ErrPlan},
		"behind close":                  {Plan{Ops: []Op{{Kind: Close, Var: "e.1"}, empty}}, ErrPlan},
		"not done":                      {Plan{Ops: []Op{{Kind: Symbol, Symbol: a}}}, ErrPlan},
		"an inner hole not done":        {Plan{Ops: []Op{{Kind: Enter}, empty}}, ErrPlan},
		"open, and not done":            {Plan{Ops: []Op{{Kind: Open, Var: "e.1"}}}, ErrPlan},
		"symbol without one":            {Plan{Ops: []Op{{Kind: Symbol}, empty}}, ErrPlan},
		"symbol of two bytes":           {Plan{Ops: []Op{{Kind: Symbol, Symbol: api.Term{Kind: api.Char, Text: "ab"}}, empty}}, ErrPlan},
		"symbol with kids":              {Plan{Ops: []Op{{Kind: Symbol, Symbol: api.Term{Kind: api.Char, Text: "a", Kids: []api.Term{a}}}, empty}}, ErrPlan},
		"symbol that is a group":        {Plan{Ops: []Op{{Kind: Symbol, Symbol: api.Term{Kind: api.Group}}, empty}}, ErrPlan},
		"symbol that is a variable":     {Plan{Ops: []Op{{Kind: Symbol, Symbol: api.Term{Kind: api.SVar, Text: "1"}}, empty}}, ErrPlan},
		"symbol with a variable":        {Plan{Given: []string{"s.1"}, Ops: []Op{{Kind: Symbol, Symbol: a, Var: "s.1"}, empty}}, ErrPlan},
		"enter with a symbol":           {Plan{Ops: []Op{{Kind: Enter, Symbol: a}, {Kind: Empty, Hole: 1}, empty}}, ErrPlan},
		"enter with a variable":         {Plan{Ops: []Op{{Kind: Enter, Var: "e.1"}, {Kind: Empty, Hole: 1}, empty}}, ErrPlan},
		"takeS with a symbol":           {Plan{Ops: []Op{{Kind: TakeS, Symbol: a, Var: "s.1"}, empty}}, ErrPlan},
		"takeS without a variable":      {Plan{Ops: []Op{{Kind: TakeS}, empty}}, ErrPlan},
		"takeS of t":                    {Plan{Ops: []Op{{Kind: TakeS, Var: "t.1"}, empty}}, ErrPlan},
		"takeS of no name":              {Plan{Ops: []Op{{Kind: TakeS, Var: "s.-"}, empty}}, ErrPlan},
		"takeS of a given one":          {Plan{Given: []string{"s.1"}, Ops: []Op{{Kind: TakeS, Var: "s.1"}, empty}}, ErrPlan},
		"takeS twice":                   {Plan{Ops: []Op{{Kind: TakeS, Var: "s.1"}, {Kind: TakeS, Var: "s.1"}, empty}}, ErrPlan},
		"takeT of s":                    {Plan{Ops: []Op{{Kind: TakeT, Var: "s.1"}, empty}}, ErrPlan},
		"takeT of e":                    {Plan{Ops: []Op{{Kind: TakeT, Var: "e.1"}, empty}}, ErrPlan},
		"takeT twice":                   {Plan{Ops: []Op{{Kind: TakeT, Var: "t.1"}, {Kind: TakeT, Var: "t.1"}, empty}}, ErrPlan},
		"known without a value":         {Plan{Ops: []Op{{Kind: Known, Var: "s.1"}, empty}}, ErrPlan},
		"known with another's value":    {Plan{Given: []string{"t.1"}, Ops: []Op{{Kind: Known, Var: "s.1"}, empty}}, ErrPlan},
		"known that gets a value later": {Plan{Ops: []Op{{Kind: Known, Var: "s.1"}, {Kind: TakeS, Var: "s.1"}, empty}}, ErrPlan},
		"known without a variable":      {Plan{Ops: []Op{{Kind: Known}, empty}}, ErrPlan},
		"empty at the right":            {Plan{Ops: []Op{{Kind: Empty, Right: true}}}, ErrPlan},
		"empty with a variable":         {Plan{Ops: []Op{{Kind: Empty, Var: "e.1"}}}, ErrPlan},
		"empty with a symbol":           {Plan{Ops: []Op{{Kind: Empty, Symbol: a}}}, ErrPlan},
		"empty with a text":             {Plan{Ops: []Op{{Kind: Empty, Symbol: api.Term{Text: "a"}}}}, ErrPlan},
		"empty with kids":               {Plan{Ops: []Op{{Kind: Empty, Symbol: api.Term{Kids: []api.Term{zero}}}}}, ErrPlan},
		"close at the right":            {Plan{Ops: []Op{{Kind: Close, Right: true, Var: "e.1"}}}, ErrPlan},
		"close of t":                    {Plan{Ops: []Op{{Kind: Close, Var: "t.1"}}}, ErrPlan},
		"close of a given one":          {Plan{Given: []string{"e.1"}, Ops: []Op{{Kind: Close, Var: "e.1"}}}, ErrPlan},
		"close of an opened one":        {Plan{Ops: []Op{{Kind: Open, Var: "e.1"}, {Kind: Close, Var: "e.1"}}}, ErrPlan},
		"open at the right":             {Plan{Ops: []Op{{Kind: Open, Right: true, Var: "e.1"}, empty}}, ErrPlan},
		"open of s":                     {Plan{Ops: []Op{{Kind: Open, Var: "s.1"}, empty}}, ErrPlan},
		"open with a symbol":            {Plan{Ops: []Op{{Kind: Open, Symbol: a, Var: "e.1"}, empty}}, ErrPlan},
		"open of a given one":           {Plan{Given: []string{"e.1"}, Ops: []Op{{Kind: Open, Var: "e.1"}, empty}}, ErrPlan},
		"given twice":                   {Plan{Given: []string{"e.1", "e.1"}, Ops: []Op{empty}}, ErrPlan},
		"given no variable":             {Plan{Given: []string{""}, Ops: []Op{empty}}, ErrPlan},

		"as many as may be": {Plan{Ops: append(slices.Repeat([]Op{{Kind: Symbol, Symbol: a}}, 8999), empty)}, api.OK},
		"too many":          {Plan{Ops: make([]Op, 9001)}, api.ErrCount},
		"too many given":    {Plan{Given: make([]string, 4001), Ops: []Op{{}}}, api.ErrCount},
	} {
		if e := Check(c.p); e != c.want {
			t.Errorf("Check of a plan with %s = %v, want %v", name, e, c.want)
		}
		if c.want == api.OK {
			continue
		}
		if l, e := Pattern(c.p); len(l) != 0 || e != c.want {
			t.Errorf("Pattern of a plan with %s = %v, %v, want %v", name, l, e, c.want)
		}
		if l, n, e := Run(c.p, []api.Term{zero}, nil); len(l) != 0 || n != 0 || e != c.want {
			t.Errorf("Run of a plan with %s = %v, %d, %v, want %v", name, l, n, e, c.want)
		}
		if l, e := All(c.p, []api.Term{zero}, nil, -1); len(l) != 0 || e != c.want {
			t.Errorf("All of a plan with %s = %v, %v, want %v", name, l, e, c.want)
		}
		if x, e := Cost(c.p, -1); x != 0 || e != c.want {
			t.Errorf("Cost of a plan with %s = %v, %v, want %v", name, x, e, c.want)
		}
	}
}

func TestRun(t *testing.T) {
	for _, c := range []struct {
		pattern, value string
		given          []string // variables, each one with the text of its value behind it
		want           string
		ops            int
		e              api.Errno
	}{
		{"e.1 'a' e.2 s.3", "'bac'", nil, "e.1='b';e.2=;s.3='c';", 6, api.OK}, // take, open, symbol; open, symbol, close
		{"e.1 'a' e.2 s.3", "'bbb'", nil, "", 7, api.ErrMissing},              // take, open, symbol; open, symbol; open, symbol
		{"e.1 'a' e.2 s.3", "", nil, "", 1, api.ErrMissing},
		{"", "", nil, "", 1, api.OK},
		{"", "'a'", nil, "", 1, api.ErrMissing},
		{"e.1", "'ab' ('c')", nil, "e.1='ab' ('c');", 1, api.OK},
		{"s.1 s.1", "'aa'", nil, "s.1='a';", 3, api.OK},
		{"s.1 s.1", "'a' a", nil, "", 2, api.ErrMissing},
		{"s.1 e.2", "('a')", nil, "", 1, api.ErrMissing},
		{"t.1 e.2", "('a') 'b'", nil, "t.1=('a');e.2='b';", 2, api.OK},
		{"e.2 t.1", "'b' (('a'))", nil, "e.2='b';t.1=(('a'));", 2, api.OK},
		{"e.2 s.1", "'b' (('a'))", nil, "", 1, api.ErrMissing},
		{"t.1 t.2", "()", nil, "", 2, api.ErrMissing},
		{"(e.1) e.2", "('a') 'b'", nil, "e.1='a';e.2='b';", 3, api.OK},
		{"(e.1) e.2", "'a' 'b'", nil, "", 1, api.ErrMissing},
		{"e.1 (e.2 'c')", "'a' ('bc')", nil, "e.1='a';e.2='b';", 4, api.OK},
		{"e.1 e.1", "'abab'", nil, "e.1='ab';", 8, api.OK}, // open, known, empty; open, known; open, known, empty
		{"e.1 e.1", "'aba'", nil, "", 9, api.ErrMissing},
		{"e.1 (e.2) e.3", "'a' ('b') ('c')", nil, "e.1='a';e.2='b';e.3=('c');", 6, api.OK},
		{"t.1 e.2 t.1", "('ab' ()) 'x' ('ab' ())", nil, "t.1=('ab' ());e.2='x';", 3, api.OK},
		{"t.1 e.2 t.1", "('ab' ()) 'x' ('ab' (()))", nil, "", 2, api.ErrMissing},
		{"e.1 e.2", "'ab'", []string{"e.1", "'a'"}, "e.2='b';", 2, api.OK},
		{"e.1 e.2", "'ab'", []string{"e.1", "'b'"}, "", 1, api.ErrMissing},
		{"e.1 e.2", "'ab'", []string{"e.1", "'abc'"}, "", 1, api.ErrMissing},
		{"e.1 e.2", "'abcdefghij'", []string{"e.1", "'abcdefghi'"}, "e.2='j';", 2, api.OK},
		{"e.1 e.2", "'abcdefghij'", []string{"e.1", "'abcdexghi'"}, "", 1, api.ErrMissing},
		{"e.2 e.1", "'x' (('a') 'b') 'c'", []string{"e.1", "(('a') 'b') 'c'"}, "e.2='x';", 2, api.OK},
		{"e.2 e.1", "'x' (('a') 'b') 'c'", []string{"e.1", "('a') 'b'"}, "", 1, api.ErrMissing},
		{"s.1 t.2 e.3", "'a' (b) c", []string{"e.3", "c", "t.2", "(b)", "s.1", "'a'", "s.9", "x"}, "", 4, api.OK},
		{"(e.3 s.2) s.1 e.3", "('xy') 1 'x'", nil, "e.3='x';s.2='y';s.1=1;", 6, api.OK},
	} {
		given := bindings(t, c.given...)
		var names []string
		for _, b := range slices.Backward(given) { // the order of the bindings does not matter
			names = append(names, b.Var)
		}
		l, n, e := Run(plan(t, c.pattern, names...), parsed(t, c.value), given)
		if textOf(l) != c.want || n != c.ops || e != c.e {
			t.Errorf("Run of %s with %s = %s, %d, %v, want %s, %d, %v", c.pattern, c.value, textOf(l), n, e, c.want, c.ops, c.e)
		}
	}
}

func TestRunErrors(t *testing.T) {
	p := plan(t, "s.1 t.2 e.3", "s.1", "t.2", "e.3")
	right := bindings(t, "s.1", "a", "t.2", "(b)", "e.3", "c c")
	value := parsed(t, "a (b) c c")
	with := func(i int, b api.Binding) []api.Binding {
		l := slices.Clone(right)
		l[i] = b
		return l
	}
	variable := parsed(t, "s.1")
	for name, c := range map[string]struct {
		value []api.Term
		given []api.Binding
		want  api.Errno
	}{
		"right":                  {value, right, api.OK},
		"a variable":             {variable, nil, api.ErrForm},
		"too many terms":         {make([]api.Term, 4001), nil, api.ErrCount},
		"too few bindings":       {value, right[:2], api.ErrCount},
		"too many bindings":      {value, append(slices.Clone(right), right[0]), api.ErrCount},
		"another binding":        {value, with(1, binding(t, "t.3", "a")), api.ErrMissing},
		"a binding twice":        {value, with(2, right[1]), api.ErrMissing},
		"missing first":          {value, []api.Binding{{Var: "t.2", Value: variable}, {Var: "t.2"}, {Var: "e.3"}}, api.ErrMissing},
		"wrong first":            {value, []api.Binding{{Var: "s.1", Value: variable}, {Var: "s.1"}, {Var: "e.3"}}, api.ErrForm},
		"a value with variables": {value, with(2, api.Binding{Var: "e.3", Value: variable}), api.ErrForm},
		"a value too large":      {value, with(2, api.Binding{Var: "e.3", Value: make([]api.Term, 4001)}), api.ErrCount},
		"no symbol":              {value, with(0, binding(t, "s.1", "")), api.ErrForm},
		"two symbols":            {value, with(0, binding(t, "s.1", "a a")), api.ErrForm},
		"a group":                {value, with(0, binding(t, "s.1", "(a)")), api.ErrForm},
		"too many symbols":       {value, with(0, api.Binding{Var: "s.1", Value: make([]api.Term, 4001)}), api.ErrCount},
		"no term":                {value, with(1, binding(t, "t.2", "")), api.ErrForm},
		"two terms":              {value, with(1, binding(t, "t.2", "a b")), api.ErrForm},
	} {
		l, n, e := Run(p, c.value, c.given)
		if len(l) != 0 || (n != 0) != (c.want == api.OK) || e != c.want {
			t.Errorf("Run with %s = %v, %d, %v, want %v", name, l, n, e, c.want)
		}
		if c.want == api.OK {
			continue
		}
		if l, e := All(p, c.value, c.given, -1); len(l) != 0 || e != c.want {
			t.Errorf("All with %s = %v, %v, want %v", name, l, e, c.want)
		}
	}
}

func TestAll(t *testing.T) {
	for _, c := range []struct {
		pattern, value string
		most           int
		want           string
		e              api.Errno
	}{
		{"e.1 s.2 e.3", "'abc'", 2, "e.1=;s.2='a';e.3='bc';|e.1='a';s.2='b';e.3='c';|", api.OK},
		{"e.1 s.2 e.3", "'abc'", 3, "e.1=;s.2='a';e.3='bc';|e.1='a';s.2='b';e.3='c';|e.1='ab';s.2='c';e.3=;|", api.OK},
		{"e.1 s.2 e.3", "'ab'", 1000, "e.1=;s.2='a';e.3='b';|e.1='a';s.2='b';e.3=;|", api.OK},
		{"e.1 s.2 e.3", "'ab'", 0, "", api.OK},
		{"e.1 s.2 e.3", "", 9, "", api.OK},
		{"'a'", "'a'", 9, "|", api.OK},
		{"e.1 e.2 e.3", "'a'", 9, "e.1=;e.2=;e.3='a';|e.1=;e.2='a';e.3=;|e.1='a';e.2=;e.3=;|", api.OK},
		{"(e.1 e.2) (e.3 e.4)", "('a') ('b')", 9, "e.1=;e.2='a';e.3=;e.4='b';|e.1=;e.2='a';e.3='b';e.4=;|e.1='a';e.2=;e.3=;e.4='b';|e.1='a';e.2=;e.3='b';e.4=;|", api.OK},
		{"'a'", "'a'", -1, "", api.ErrRange},
		{"'a'", "'b'", 1001, "", api.ErrRange},
	} {
		l, e := All(plan(t, c.pattern), parsed(t, c.value), nil, c.most)
		got := ""
		for _, b := range l {
			got += textOf(b) + "|"
		}
		if got != c.want || e != c.e {
			t.Errorf("All of %s with %s = %s, %v, want %s, %v", c.pattern, c.value, got, e, c.want, c.e)
		}
	}
	if l, e := All(plan(t, "e.1 e.2 e.3"), parsed(t, strings.Repeat("a ", 60)), nil, 1000); len(l) != 1000 || e != api.OK {
		t.Errorf("All of many = %d, %v", len(l), e)
	}
}

// A plan may be right though nothing would compile to it.
func TestOwnPlans(t *testing.T) {
	a := api.Term{Kind: api.Char, Text: "a"}
	for _, c := range []struct {
		ops     []Op
		pattern string
		value   string
		want    string
		done    int
		e       api.Errno
	}{
		{[]Op{{Kind: Open, Var: "e.1"}, {Kind: Empty}}, "e.1", "'aaa'", "e.1='aaa';", 8, api.OK},
		{[]Op{{Kind: Symbol, Symbol: a}, {Kind: Symbol, Right: true, Symbol: a}, {Kind: TakeT, Right: true, Var: "t.1"}, {Kind: Close, Var: "e.2"}}, "'a' e.2 t.1 'a'", "'axya'", "e.2='x';t.1='y';", 4, api.OK},
		{[]Op{{Kind: Enter, Right: true}, {Kind: Enter}, {Kind: Close, Hole: 2, Var: "e.2"}, {Kind: Close, Hole: 1, Var: "e.1"}, {Kind: Empty}}, "(e.2) (e.1)", "('a') ('b')", "e.2='a';e.1='b';", 5, api.OK},
		{[]Op{{Kind: Open, Var: "e.1"}, {Kind: TakeS, Right: true, Var: "s.2"}, {Kind: TakeS, Var: "s.3"}, {Kind: Empty}}, "e.1 s.3 s.2", "'abc'", "e.1='a';s.3='b';s.2='c';", 8, api.OK},
		{[]Op{{Kind: TakeS, Right: true, Var: "s.2"}, {Kind: Empty}}, "s.2", "'abc'", "", 2, api.ErrMissing},
	} {
		p := Plan{Ops: c.ops}
		l, n, e := Run(p, parsed(t, c.value), nil)
		if textOf(l) != c.want || n != c.done || e != c.e {
			t.Errorf("Run of %s with %s = %s, %d, %v, want %s, %d, %v", opsOf(p), c.value, textOf(l), n, e, c.want, c.done, c.e)
		}
		if l, e := Pattern(p); !term.Equal(l, parsed(t, c.pattern)) || e != api.OK {
			t.Errorf("Pattern of %s = %v, %v, want %s", opsOf(p), l, e, c.pattern)
		}
	}
}

func TestPatternErrors(t *testing.T) {
	var deep []Op
	for i := range 101 {
		deep = append(deep, Op{Kind: Enter, Hole: i})
	}
	for i := range 102 {
		deep = append(deep, Op{Kind: Empty, Hole: i})
	}
	if l, e := Pattern(Plan{Ops: deep}); len(l) != 0 || e != api.ErrDepth {
		t.Errorf("Pattern of 101 groups = %v, %v", l, e)
	}
	many := append(slices.Repeat([]Op{{Kind: Symbol, Symbol: api.Term{Kind: api.Number, Text: "1"}}}, 4001), Op{Kind: Empty})
	if l, e := Pattern(Plan{Ops: many}); len(l) != 0 || e != api.ErrCount {
		t.Errorf("Pattern of 4001 symbols = %d terms, %v", len(l), e)
	}
	if l, n, e := Run(Plan{Ops: many}, parsed(t, "1 1"), nil); len(l) != 0 || n != 3 || e != api.ErrMissing {
		t.Errorf("Run of 4001 symbols = %v, %d, %v", l, n, e)
	}
}

func TestOpens(t *testing.T) {
	for pattern, want := range map[string]int{"": 0, "e.1 'a' e.2": 1, "e.1 'a' e.2 'b' e.3": 2, "(e.1 e.2) (e.3 e.4)": 2, "e.1 s.2": 0} {
		if n := Opens(plan(t, pattern)); n != want {
			t.Errorf("Opens of %s = %d, want %d", pattern, n, want)
		}
	}
	if n := Opens(Plan{Ops: []Op{{Kind: Open, Hole: -1}, {Kind: 99}, {Kind: Open}}}); n != 2 {
		t.Errorf("Opens of a wrong plan = %d", n)
	}
}

func TestCost(t *testing.T) {
	for _, c := range []struct {
		pattern string
		terms   int
		want    float32
		e       api.Errno
	}{
		{"", 10, 1, api.OK},
		{"s.1 (e.2) e.3", 10, 4, api.OK},
		{"e.1 'a' e.2 s.3", 0, 4, api.OK},
		{"e.1 'a' e.2 s.3", 9, 2 + 10 + 10, api.OK},
		{"e.1 'a' e.2 'b' e.3", 9, 1 + 10 + 10 + 100 + 100, api.OK},
		{"e.1 e.2", 20000, 20002, api.OK},
		{"e.1 e.2", -1, 0, api.ErrRange},
		{"e.1 e.2", 20001, 0, api.ErrRange},
		{"e.1 e.2 e.3", 20000, 1 + 20001 + 400040000, api.OK}, // the product is rounded
		{"e.1 e.2 e.3 e.4 e.5 e.6 e.7 e.8 e.9 e.10 e.11 e.12", 20000, float32(math.Inf(1)), api.OK},
	} {
		if x, e := Cost(plan(t, c.pattern), c.terms); x != c.want || e != c.e {
			t.Errorf("Cost of %s with %d terms = %v, %v, want %v, %v", c.pattern, c.terms, x, e, c.want, c.e)
		}
	}
}
