package module

import (
	"math/rand"
	"slices"
	"strings"
	"testing"

	"chiasmus/api"
	"chiasmus/check"
	"chiasmus/syntax"
	"chiasmus/term"
)

var long = strings.Repeat

// unit returns a unit with the text of its module.
func unit(t *testing.T, name, text string) Unit {
	t.Helper()
	m, at, e := syntax.Read(text)
	if e != api.OK {
		t.Fatalf("Read(%q) = %d, %v", text, at, e)
	}
	return Unit{Name: name, Module: m}
}

// units returns the units with names and texts, one behind the other.
func units(t *testing.T, l ...string) []Unit {
	t.Helper()
	var us []Unit
	for i := 0; i < len(l); i += 2 {
		us = append(us, unit(t, l[i], l[i+1]))
	}
	return us
}

func textOf(l []api.Function) string {
	s, e := syntax.Write(syntax.Module{Functions: l})
	if e != api.OK {
		return e.Error()
	}
	return strings.Join(strings.Fields(s), " ")
}

func example(t *testing.T) []Unit {
	return units(t,
		"a", "$EXTERN H; $ENTRY G { e.1 = <F <H e.1>>; } F { e.1 = e.1; }",
		"b", "$ENTRY H { e.1 = <F e.1>; } F { e.1 = e.1 e.1; }")
}

func TestLink(t *testing.T) {
	for _, c := range []struct {
		name  string
		units []Unit
		known []string
		want  string
	}{
		{"nothing", nil, []string{"Add"}, ""},
		{"empty units", units(t, "a", "", "b", ""), nil, ""},
		{"the example", example(t), nil, "$ENTRY G { e.1 = <a_F <H e.1>>; } a_F { e.1 = e.1; } $ENTRY H { e.1 = <b_F e.1>; } b_F { e.1 = e.1 e.1; }"},
		{"all expressions", units(t, "u", "F { (s.1), <F <F>> : t.2, <G (<F>)> : { a = <F>; b, <F> : c = <G>; d, <F> : { = <F>; } } } G { = <u>; } u { = ; }"), nil,
			"u_F { (s.1) , <u_F <u_F>> : t.2 , <u_G (<u_F>)> : { a = <u_F>; b , <u_F> : c = <u_G>; d , <u_F> : { = <u_F>; }; }; } u_G { = <u_u>; } u_u { =; }"},
		{"words and variables stay", units(t, "u", "F { F s.F = F 'F' s.F; }"), nil, "u_F { F s.F = F 'F' s.F; }"},
		{"known names", units(t, "u", "F { = <Add <F>>; }"), []string{"Add", "Add"}, "u_F { = <Add <u_F>>; }"},
		{"a local function with a known name", units(t, "u", "Add { = <Add>; }", "v", "F { = <Add>; }"), []string{"Add"}, "u_Add { = <u_Add>; } v_F { = <Add>; }"},
		{"a local function with the name of another entry", units(t, "u", "F { = <F>; }", "v", "$ENTRY F { = <F>; }"), nil, "u_F { = <u_F>; } $ENTRY F { = <F>; }"},
		{"units that need each other", units(t, "u", "$EXTERN G; $ENTRY F { = <G>; }", "v", "$EXTERN F; $ENTRY G { = <F>; }"), nil, "$ENTRY F { = <G>; } $ENTRY G { = <F>; }"},
		{"the longest names", units(t, long("u", 20), long("f", 19)+" { = ; } $ENTRY "+long("g", 40)+" { = ; }"), nil,
			long("u", 20) + "_" + long("f", 19) + " { =; } $ENTRY " + long("g", 40) + " { =; }"},
	} {
		p, i, e := Link(c.units, c.known)
		if got := textOf(p.Functions); got != c.want || i != 0 || e != api.OK {
			t.Errorf("%s: Link = %s, %d, %v, want %s", c.name, got, i, e, c.want)
		}
	}
}

func TestCodes(t *testing.T) {
	for i, e := range []api.Errno{ErrUnit, ErrExtern, ErrEntry, ErrLocal, ErrLong, ErrCycle} {
		if e != api.Errno(70+i) {
			t.Errorf("the code %d is %v", 70+i, e)
		}
	}
}

func TestLinkErrors(t *testing.T) {
	entry, local := "$ENTRY G { = ; } ", "F { = ; } "
	many := Unit{Name: "m"}
	for i := range 149 {
		many.Module.Functions = append(many.Module.Functions, api.Function{Name: "f" + long("a", i%12) + long("b", i/12), Sentences: []api.Sentence{{}}})
	}
	wrong := unit(t, "w", local)
	wrong.Module.Functions[0].Sentences[0].Left = []api.Term{{Kind: api.Call, Text: "F"}}
	large := unit(t, "w", local)
	large.Module.Functions[0].Sentences[0].Right = term.Chars(long("a", 4001))
	for _, c := range []struct {
		name  string
		units []Unit
		at    int
		want  api.Errno
	}{
		{"a name that is none", units(t, "a", "", "1", ""), 1, ErrUnit},
		{"an empty name", units(t, "", "F { = <X>; }"), 0, ErrUnit},
		{"a name too long", units(t, "a", "", long("u", 41), ""), 1, ErrUnit},
		{"a name twice", units(t, "a", "", "b", "", "a", ""), 2, ErrUnit},
		{"a name ahead of a module", append(units(t, "w", ""), wrong), 1, ErrUnit},
		{"a module that is not right", append(units(t, "a", entry), wrong), 1, api.ErrForm},
		{"a module that is too large", []Unit{large}, 0, api.ErrCount},
		{"a module ahead of the next unit", append([]Unit{wrong}, units(t, "1", "")...), 0, api.ErrForm},
		{"a unit ahead of the next module", append(units(t, "1", ""), wrong), 0, ErrUnit},
		{"a module ahead of its names", []Unit{{Name: "u", Module: syntax.Module{Externs: []string{"F", "F", "1"}}}}, 0, api.ErrForm},
		{"a function twice", units(t, "a", "", "b", local+local), 1, api.ErrDuplicate},
		{"an entry and a function", units(t, "a", "$ENTRY F { = ; }"+local), 0, api.ErrDuplicate},
		{"an external name twice", units(t, "a", "$EXTERN G, G;", "b", entry), 0, api.ErrDuplicate},
		{"an external name and a function", units(t, "a", "$EXTERN F; "+local, "b", "$ENTRY F { = ; }"), 0, api.ErrDuplicate},
		{"an external name and an entry", units(t, "a", "", "b", "$EXTERN G; "+entry), 1, api.ErrDuplicate},
		{"units ahead of entries", units(t, "a", entry, "b", entry, "1", ""), 2, ErrUnit},

		{"an entry of two units", units(t, "a", entry, "b", local, "c", entry), 2, ErrEntry},
		{"an entry with a known name", units(t, "a", "", "b", "$ENTRY Add { = ; }"), 1, ErrEntry},
		{"entries ahead of external names", units(t, "a", "$EXTERN X; "+entry, "b", entry), 1, ErrEntry},

		{"an external name of nothing", units(t, "a", entry, "b", "$EXTERN G, H;"), 1, ErrExtern},
		{"an external name of a local function", units(t, "a", local, "b", "$EXTERN F;"), 1, ErrExtern},
		{"a known external name", units(t, "a", "$EXTERN Add;"), 0, ErrExtern},
		{"external names ahead of calls", units(t, "a", "F { = <X>; }", "b", "$EXTERN X;"), 1, ErrExtern},

		{"a call of nothing", units(t, "a", local, "b", "F { = <X>; }"), 1, ErrLocal},
		{"a call of another unit's local function", units(t, "a", local, "b", "G { = <F>; }"), 1, ErrLocal},
		{"a call of another unit's entry", units(t, "a", entry, "b", "F { = <G>; }"), 1, ErrLocal},
		{"a call of a linked name", units(t, "a", local+"$ENTRY G { = <a_F>; }"), 0, ErrLocal},
		{"a call in a condition", units(t, "a", "F { , <X> : = ; }"), 0, ErrLocal},
		{"a call in a subject", units(t, "a", "F { , <F <X>> : { = ; } }"), 0, ErrLocal},
		{"a call in a block", units(t, "a", "F { , : { = ; = (<X>); } }"), 0, ErrLocal},
		{"calls ahead of long names", units(t, "a", "F { = <X>; }", "b", long("f", 39)+" { = ; }"), 0, ErrLocal},
		{"calls behind long names", units(t, "a", long("f", 39)+" { = ; }", "b", "F { = <X>; }"), 1, ErrLocal},

		{"a long name", units(t, "a", local, long("u", 20), long("f", 20)+" { = ; }"), 1, ErrLong},
		{"a linked name twice", units(t, "a", local, "b", "$ENTRY a_F { = ; }"), 1, api.ErrDuplicate},
		{"a linked name twice, the entry ahead", units(t, "b", "$ENTRY a_F { = ; }", "a", local), 1, api.ErrDuplicate},
		{"a linked name of two units", units(t, "a_b", local, "a", "b_F { = ; }"), 1, api.ErrDuplicate},
		{"a known linked name", units(t, "b", local, "k", "nown { = ; }"), 1, api.ErrDuplicate},
		{"a long name ahead of one twice", units(t, "a", long("f", 39)+" { = ; } F { = ; }", "b", "$ENTRY a_F { = ; }"), 0, ErrLong},
		{"a name twice ahead of a long one", units(t, "a", local, "b", "$ENTRY a_F { = ; } "+long("f", 39)+" { = ; }"), 1, api.ErrDuplicate},
		{"names ahead of the program", units(t, "a", "F { = e.1; }", "b", long("f", 39)+" { = ; }"), 1, ErrLong},

		{"an unbound variable", units(t, "a", "", "b", local+entry, "c", local+"H { = e.1; }"), 2, check.ErrUnbound},
		{"too many conditions", units(t, "a", local, "b", "F { "+long(", : ", 9)+"= ; }"), 1, api.ErrCount},
		{"too many sentences", units(t, "a", local, "b", "F { "+long("=;", 41)+"}"), 1, api.ErrCount},
		{"too many functions", append(units(t, "e", "", "a", local+"H { = ; }"), many), 1, api.ErrCount},
	} {
		p, i, e := Link(c.units, []string{"Add", "k_nown"})
		if i != c.at || e != c.want || len(p.Functions) != 0 {
			t.Errorf("%s: Link = %s, %d, %v, want %d, %v", c.name, textOf(p.Functions), i, e, c.at, c.want)
		}
		back := slices.Clone(c.units)
		slices.Reverse(back)
		if _, _, e := Link(back, []string{"Add", "k_nown"}); e == api.OK {
			t.Errorf("%s: Link in another order has no error", c.name)
		}
	}
	if _, i, e := Link(append(units(t, "a", local), many), nil); i != 0 || e != api.OK {
		t.Errorf("Link of as many functions as may be = %d, %v", i, e)
	}
}

func TestLinkKeepsItsArguments(t *testing.T) {
	l, known := example(t), []string{"Add"}
	p, _, _ := Link(l, known)
	for _, f := range p.Functions {
		f.Sentences[0].Right[0].Text = "changed"
		f.Sentences[0].Left[0].Text = "changed"
	}
	for i, u := range example(t) {
		if l[i].Name != u.Name || !syntax.Equal(l[i].Module, u.Module) {
			t.Errorf("the unit %d is %v now", i, l[i])
		}
	}
	if known[0] != "Add" {
		t.Errorf("the known names are %v now", known)
	}
}

func TestName(t *testing.T) {
	l := example(t)
	twice := Unit{Name: "t", Module: syntax.Module{Functions: []api.Function{{Name: "F", Entry: true}, {Name: "F"}}}}
	l = append(l, twice, Unit{Name: long("u", 20), Module: syntax.Module{Functions: []api.Function{
		{Name: long("f", 19)}, {Name: long("f", 20)}, {Name: long("e", 41), Entry: true}, {Name: ""}}}})
	for _, c := range []struct {
		unit       int
		name, want string
		e          api.Errno
	}{
		{0, "F", "a_F", api.OK},
		{0, "G", "G", api.OK},
		{1, "F", "b_F", api.OK},
		{1, "H", "H", api.OK},
		{2, "F", "F", api.OK},
		{3, long("f", 19), long("u", 20) + "_" + long("f", 19), api.OK},
		{3, long("f", 20), "", ErrLong},
		{3, long("e", 41), "", ErrLong},
		{3, "", long("u", 20) + "_", api.OK},
		{0, "H", "", api.ErrMissing},
		{1, "b_F", "", api.ErrMissing},
		{4, "F", "", api.ErrRange},
		{-1, "F", "", api.ErrRange},
	} {
		if s, e := Name(l, c.unit, c.name); s != c.want || e != c.e {
			t.Errorf("Name(%d, %s) = %s, %v, want %s, %v", c.unit, c.name, s, e, c.want, c.e)
		}
	}
	if _, e := Name(nil, 0, "F"); e != api.ErrRange {
		t.Errorf("Name of no unit = %v", e)
	}
}

func TestOrigin(t *testing.T) {
	l := append(example(t),
		Unit{Name: "a", Module: syntax.Module{Functions: []api.Function{{Name: "F"}, {Name: "X_F", Entry: true}}}},
		Unit{Name: "X", Module: syntax.Module{Functions: []api.Function{{Name: "F"}, {Name: long("f", 50)}}}},
		Unit{Name: "y", Module: syntax.Module{Functions: []api.Function{{Name: "y_F", Entry: true}, {Name: "F"}}}})
	for _, c := range []struct {
		name     string
		unit     int
		function string
		e        api.Errno
	}{
		{"G", 0, "G", api.OK},
		{"a_F", 0, "F", api.OK},
		{"H", 1, "H", api.OK},
		{"b_F", 1, "F", api.OK},
		{"X_F", 2, "X_F", api.OK},
		{"y_F", 4, "y_F", api.OK},
		{"X_" + long("f", 50), 3, long("f", 50), api.OK},
		{"F", 0, "", api.ErrMissing},
		{"a_G", 0, "", api.ErrMissing},
		{"c_F", 0, "", api.ErrMissing},
		{"", 0, "", api.ErrMissing},
	} {
		if i, f, e := Origin(l, c.name); i != c.unit || f != c.function || e != c.e {
			t.Errorf("Origin(%s) = %d, %s, %v, want %d, %s, %v", c.name, i, f, e, c.unit, c.function, c.e)
		}
	}
}

func TestNeeds(t *testing.T) {
	l := units(t,
		"a", "$EXTERN D, B, C, B;",
		"b", "$ENTRY B { = ; } $ENTRY D { = ; }",
		"c", "$EXTERN B; $ENTRY B { = ; } $ENTRY C { = ; } $ENTRY D { = ; }",
		"d", "$ENTRY D { = ; } C { = ; }",
		"e", "$EXTERN C; $ENTRY C { = ; }",
		"f", "$EXTERN X;",
		"g", "$EXTERN G; $ENTRY G { = ; }")
	for i, want := range [][]int{{1, 2}, {}, {1}, {}, {2}} {
		if n, e := Needs(l, i); !slices.Equal(n, want) || e != api.OK {
			t.Errorf("Needs(%d) = %v, %v, want %v", i, n, e, want)
		}
	}
	for i, want := range map[int]api.Errno{5: ErrExtern, 6: ErrExtern, 7: api.ErrRange, -1: api.ErrRange} {
		if n, e := Needs(l, i); len(n) != 0 || e != want {
			t.Errorf("Needs(%d) = %v, %v, want %v", i, n, e, want)
		}
	}
	if n, e := Needs(nil, 0); len(n) != 0 || e != api.ErrRange {
		t.Errorf("Needs of no unit = %v, %v", n, e)
	}
}

// needing returns units that need others: "a:bc" needs b and c.
func needing(t *testing.T, texts ...string) []Unit {
	var l []Unit
	for _, s := range texts {
		name, others, _ := strings.Cut(s, ":")
		text := "$ENTRY F" + name + " { = ; }"
		for _, other := range others {
			text += "$EXTERN F" + string(other) + ";"
		}
		l = append(l, unit(t, name, text))
	}
	return l
}

func TestOrder(t *testing.T) {
	for _, c := range []struct {
		units []Unit
		want  []int
		e     api.Errno
	}{
		{nil, nil, api.OK},
		{example(t), []int{1, 0}, api.OK},
		{needing(t, "a", "b", "c"), []int{0, 1, 2}, api.OK},
		{needing(t, "a:b", "b:c", "c"), []int{2, 1, 0}, api.OK},
		{needing(t, "a:d", "b", "c:b", "d:c", "e"), []int{1, 2, 3, 0, 4}, api.OK},
		{needing(t, "a:c", "b", "c:b", "d:a"), []int{1, 2, 0, 3}, api.OK},
		{needing(t, "a:bc", "b:d", "c:d", "d"), []int{3, 1, 2, 0}, api.OK},
		{needing(t, "a:b", "b:a"), nil, ErrCycle},
		{needing(t, "a", "b:c", "c:d", "d:b"), nil, ErrCycle},
		{needing(t, "a:b", "b:a", "c:x"), nil, ErrExtern},
		{needing(t, "a:a"), nil, ErrExtern},
	} {
		if got, e := Order(c.units); !slices.Equal(got, c.want) || e != c.e {
			t.Errorf("Order(%v) = %v, %v, want %v, %v", c.units, got, e, c.want, c.e)
		}
	}
}

func TestTrim(t *testing.T) {
	read := func(s string) api.Program {
		p, _, e := syntax.Program(s)
		if e != api.OK {
			t.Fatalf("Program(%q) = %v", s, e)
		}
		return p
	}
	p := read("C { = <Add>; } $ENTRY A { e.1, e.1 : { 'x' = <B>; = ; } } B { = <A>; } D { = <C>; }")
	for _, c := range []struct {
		entries []string
		want    string
		e       api.Errno
	}{
		{nil, "", api.OK},
		{[]string{"C"}, "C { = <Add>; }", api.OK},
		{[]string{"B"}, "$ENTRY A { e.1 , e.1 : { 'x' = <B>; =; }; } B { = <A>; }", api.OK},
		{[]string{"D", "D"}, "C { = <Add>; } D { = <C>; }", api.OK},
		{[]string{"D", "A"}, textOf(p.Functions), api.OK},
		{[]string{"A", "Add"}, "", api.ErrMissing},
		{[]string{""}, "", api.ErrMissing},
	} {
		q, e := Trim(p, c.entries)
		if got := textOf(q.Functions); got != c.want || e != c.e {
			t.Errorf("Trim(%v) = %s, %v, want %s, %v", c.entries, got, e, c.want, c.e)
		}
		if e == api.OK && !slices.Equal(check.Foreign(q), slices.DeleteFunc(check.Foreign(p), func(s string) bool { return !slices.Contains(check.Foreign(q), s) })) {
			t.Errorf("Trim(%v) has the foreign calls %v", c.entries, check.Foreign(q))
		}
	}
	if q, e := Trim(read("F { = e.1; }"), []string{"X"}); e != check.ErrUnbound || len(q.Functions) != 0 {
		t.Errorf("Trim of a program with an error = %v, %v", q, e)
	}
	q, _ := Trim(p, []string{"C"})
	q.Functions[0].Sentences[0].Right[0].Text = "changed"
	if got := textOf(p.Functions[:1]); got != "C { = <Add>; }" {
		t.Errorf("the program is %s now", got)
	}
}

func TestSplit(t *testing.T) {
	l := example(t)
	p, _, _ := Link(l, nil)
	q, e := Split(l, p)
	if e != api.OK || len(q) != 2 {
		t.Fatalf("Split = %v, %v", q, e)
	}
	for i := range q {
		if q[i].Name != l[i].Name || !syntax.Equal(q[i].Module, l[i].Module) {
			t.Errorf("Split has the unit %v, want %v", q[i], l[i])
		}
	}

	// Functions may be fewer, in another order, and have other sentences and no Entry.
	other, _, _ := syntax.Program("b_F { e.1, <a_F> : { = <b_F> <H> <Add> <G> <F>; } } H { = b_F; } $ENTRY a_F { = <b_F> <a_F> <G> <H>; }")
	q, e = Split(append(l, Unit{Name: "c"}), other)
	if e != api.OK || len(q) != 3 {
		t.Fatalf("Split = %v, %v", q, e)
	}
	for i, want := range []string{"$ENTRY F { = <b_F> <F> <G> <H>; }", "F { e.1 , <a_F> : { = <F> <H> <Add> <G> <F>; }; } H { = b_F; }", ""} {
		if got := textOf(q[i].Module.Functions); got != want {
			t.Errorf("Split has %s, want %s", got, want)
		}
		if !slices.Equal(q[i].Module.Externs, [][]string{{"H"}, nil, nil}[i]) || q[i].Name != []string{"a", "b", "c"}[i] {
			t.Errorf("Split has the unit %s with %v", q[i].Name, q[i].Module.Externs)
		}
	}

	for s, want := range map[string]api.Errno{"F { = ; }": api.ErrMissing, "G { = ; } X { = ; }": api.ErrMissing, "G { = ; } G { = ; }": api.ErrDuplicate, "X { = s.1; }": check.ErrUnbound} {
		p, _, _ := syntax.Program(s)
		if q, e := Split(l, p); e != want || len(q) != 0 {
			t.Errorf("Split of %s = %v, %v, want %v", s, q, e, want)
		}
	}
	if q, e := Split(nil, api.Program{}); e != api.OK || len(q) != 0 {
		t.Errorf("Split of nothing = %v, %v", q, e)
	}
	if q, e := Split(nil, other); e != api.ErrMissing || len(q) != 0 {
		t.Errorf("Split without units = %v, %v", q, e)
	}
}

// chance returns units that call and need each other by chance; most of them can be linked.
func chance(t *testing.T, r *rand.Rand) []Unit {
	names := []string{"a", "b", "c"}[:1+r.Intn(3)]
	var l []Unit
	for _, name := range names {
		text, callable := "", []string{"Add", "F", "G"}
		for _, other := range names {
			if other != name && r.Intn(2) == 0 {
				text += "$EXTERN E" + other + "; "
				callable = append(callable, "E"+other)
			}
		}
		call := func() string { return "<" + callable[r.Intn(len(callable))] + " e.1>" }
		text += "$ENTRY E" + name + " { e.1 = " + call() + call() + "; } "
		text += "F { e.1, " + call() + " : e.2, e.2 : { = " + call() + "; } } G { e.1 = " + call() + "; }"
		if r.Intn(8) == 0 {
			text += []string{"H { = <X>; }", "$ENTRY Ea { = ; }", "$EXTERN Ex;", "$ENTRY a_F { = ; }", "H { = e.1; }"}[r.Intn(5)]
		}
		l = append(l, unit(t, name, text))
	}
	return l
}

// sortedText returns the texts of functions in their order.
func sortedText(l []api.Function) []string {
	var texts []string
	for _, f := range l {
		texts = append(texts, textOf([]api.Function{f}))
	}
	slices.Sort(texts)
	return texts
}

func TestLinkByChance(t *testing.T) {
	r := rand.New(rand.NewSource(1))
	linked := 0
	for range 1000 {
		l := chance(t, r)
		p, _, e := Link(l, []string{"Add"})
		other := slices.Clone(l)
		r.Shuffle(len(other), func(i, j int) { other[i], other[j] = other[j], other[i] })
		q, _, e2 := Link(other, []string{"Add"})
		if (e == api.OK) != (e2 == api.OK) || !slices.Equal(sortedText(p.Functions), sortedText(q.Functions)) {
			t.Fatalf("Link(%v) = %v, in another order %v", l, e, e2)
		}
		if e != api.OK {
			continue
		}
		linked++
		rightLinked(t, l, p)
		orderHolds(t, l)
		trimHolds(t, p, r)
	}
	if linked < 300 {
		t.Errorf("only %d could be linked", linked)
	}
}

func rightLinked(t *testing.T, l []Unit, p api.Program) {
	t.Helper()
	if _, e := check.Program(p); e != api.OK {
		t.Fatalf("Link(%v) has the error %v", l, e)
	}
	for _, name := range check.Foreign(p) {
		if name != "Add" {
			t.Fatalf("Link(%v) calls %s", l, name)
		}
	}
	split, e := Split(l, p)
	if e != api.OK {
		t.Fatalf("Split of Link(%v) = %v", l, e)
	}
	at := 0
	for i, u := range l {
		if !syntax.Equal(split[i].Module, u.Module) {
			t.Fatalf("Split of Link(%v) = %v", l, split)
		}
		for _, f := range u.Module.Functions {
			name, e := Name(l, i, f.Name)
			unit, function, e2 := Origin(l, name)
			if e != api.OK || e2 != api.OK || unit != i || function != f.Name {
				t.Fatalf("Origin of Name(%d, %s) = %d, %s", i, f.Name, unit, function)
			}
			if p.Functions[at].Name != name || p.Functions[at].Entry != f.Entry || f.Entry && name != f.Name {
				t.Fatalf("Link(%v) has %s instead of %s", l, p.Functions[at].Name, name)
			}
			at++
		}
	}
}

func orderHolds(t *testing.T, l []Unit) {
	t.Helper()
	order, e := Order(l)
	if e != api.OK {
		if e != ErrCycle {
			t.Fatalf("Order(%v) = %v", l, e)
		}
		return
	}
	if len(order) != len(l) {
		t.Fatalf("Order(%v) = %v", l, order)
	}
	for at, i := range order {
		n, _ := Needs(l, i)
		for _, j := range n {
			if !slices.Contains(order[:at], j) {
				t.Fatalf("Order(%v) = %v, but %d needs %d", l, order, i, j)
			}
		}
	}
}

func trimHolds(t *testing.T, p api.Program, r *rand.Rand) {
	t.Helper()
	entries := []string{p.Functions[r.Intn(len(p.Functions))].Name}
	q, e := Trim(p, entries)
	if e != api.OK || len(q.Functions) != len(check.Reached(p, entries)) {
		t.Fatalf("Trim(%v, %v) = %v, %v", p, entries, q, e)
	}
	for i, name := range check.Reached(p, entries) {
		f := p.Functions[check.Find(p, name)]
		if !syntax.Equal(syntax.Module{Functions: q.Functions[i : i+1]}, syntax.Module{Functions: []api.Function{f}}) {
			t.Fatalf("Trim(%v, %v) has %v", p, entries, q.Functions[i])
		}
	}
	for _, name := range check.Foreign(q) {
		if !slices.Contains(check.Foreign(p), name) {
			t.Fatalf("Trim(%v, %v) calls %s", p, entries, name)
		}
	}
}
