package format

import (
	"strings"
	"testing"

	"chiasmus/api"
	"chiasmus/check"
	"chiasmus/syntax"
	"chiasmus/term"
)

func parsed(t *testing.T, s string) []api.Term {
	t.Helper()
	l, at, e := term.Parse(s)
	if e != api.OK {
		t.Fatalf("Parse(%q) = %d, %v", s, at, e)
	}
	return l
}

// text returns the text of a format that may be larger than texts are.
func text(l []api.Term) string {
	var items []string
	for _, t := range l {
		if t.Kind == api.Group {
			items = append(items, "("+text(t.Kids)+")")
		} else {
			s, _ := term.Text([]api.Term{t})
			items = append(items, s)
		}
	}
	return strings.Join(items, " ")
}

func program(t *testing.T, s string) api.Program {
	t.Helper()
	p, at, e := syntax.Program(s)
	if e != api.OK {
		t.Fatalf("Program(%q) = %d, %v", s, at, e)
	}
	return p
}

// row returns a list of variables of one kind, with the names from a number on.
func row(kind string, from, to int) string {
	var items []string
	var n names
	for range to {
		if name := n.next(); int(n) >= from {
			items = append(items, kind+name)
		}
	}
	return strings.Join(items, " ")
}

// within puts so many brackets around a text.
func brackets(depth int, s string) string {
	return strings.Repeat("(", depth) + s + strings.Repeat(")", depth)
}

// wrongFormats are texts of patterns that are no formats.
func wrongFormats() []string {
	return []string{"'a'", "A", "1", "s.x", "e.0", "s.2", "s.01", "s.1 t.1", "s.1 s.3", "s.1 s.2 s.2", "e.1 e.2", "e.1 s.2 e.3", "(e.1 e.2)", "s.1 (A)",
		"(s.2) s.1", "s.2 (s.1)", "(s.1) s.1", "e.1 (e.2 (e.3) e.4)", "s.1 t.x", "s.1 ('a')", "t.1 e.3"}
}

func rightFormats() []string {
	return []string{"", "s.1", "t.1", "e.1", "()", "s.1 t.2 e.3", "(s.1) s.2", "e.1 (e.2 (e.3)) s.4", "(() (e.1)) e.2 (t.3)",
		row("s.", 1, 12), brackets(100, "e.1"), row("t.", 1, 4000)}
}

// faulty are expressions that no function takes, with their errors.
func faulty() map[api.Errno][]api.Term {
	deep := []api.Term{}
	for range 101 {
		deep = []api.Term{{Kind: api.Group, Kids: deep}}
	}
	return map[api.Errno][]api.Term{
		api.ErrForm:  {{Kind: api.EVar, Text: ""}},
		api.ErrDepth: deep,
		api.ErrCount: make([]api.Term, 4001),
	}
}

func TestCheck(t *testing.T) {
	for _, s := range rightFormats() {
		if e := Check(parsed(t, s)); e != api.OK {
			t.Errorf("Check(%s) = %v", s, e)
		}
	}
	for _, s := range wrongFormats() {
		if e := Check(parsed(t, s)); e != ErrFormat {
			t.Errorf("Check(%s) = %v, want ErrFormat", s, e)
		}
	}
	for want, l := range faulty() {
		if e := Check(l); e != want {
			t.Errorf("Check = %v, want %v", e, want)
		}
	}
	if e := Check(parsed(t, "<F>")); e != api.ErrForm {
		t.Errorf("Check of a call = %v, want ErrForm", e)
	}
	if e := Check([]api.Term{{Kind: api.SVar, Text: "2"}, {Kind: 9}}); e != api.ErrForm {
		t.Errorf("Check of a wrong name and a wrong term = %v, want ErrForm", e)
	}
}

func TestOf(t *testing.T) {
	l := []Format{
		{Name: "F", Returns: true, Result: parsed(t, "s.1 e.2")},
		{Name: "G", Takes: true, Arg: parsed(t, "e.1"), Result: parsed(t, "s.1")},
		{Name: "H", Returns: true},
		{Name: "F", Result: parsed(t, "t.1")},
		{Name: "K", Returns: true, Result: parsed(t, "(s.1 (e.2)) t.3")},
		{Name: "no name", Returns: true},
	}
	for _, c := range []struct {
		e, want string
		returns bool
	}{
		{"", "", true},
		{"'ab' A -5", "s.1 s.2 s.3 s.4", true},
		{"s.x t.y e.z", "s.1 t.2 e.3", true},
		{"s.x s.x", "s.1 s.2", true},
		{"(e.x (A)) e.x", "(e.1 (s.2)) e.3", true},
		{"()", "()", true},
		{"e.x e.y", "e.1", true},
		{"s.1 e.x A (B) e.y t.z e.z (A) s.2", "s.1 e.2 (s.3) s.4", true},
		{"(A e.x e.x) (e.x A e.x A)", "(s.1 e.2) (e.3 s.4)", true},
		{"<F>", "s.1 e.2", true},
		{"<F> <F> A", "s.1 e.2 s.3", true},
		{"<H> A <H>", "s.1", true},
		{"<K> (<K>)", "(s.1 (e.2)) t.3 ((s.4 (e.5)) t.6)", true},
		{"A <Unknown B> C", "s.1 e.2 s.3", true},
		{"A <Unknown B> C <Unknown>", "s.1 e.2", true},
		{"<G>", "", false},
		{"A (B (<G>)) C", "", false},
		{"<F <G>>", "s.1 e.2", true}, // what is in a call does not count
		{"<Unknown <G>>", "e.1", true},
		{"e.1 <G> e.2", "", false},
	} {
		f, returns, e := Of(parsed(t, c.e), l)
		if text(f) != c.want || returns != c.returns || e != api.OK {
			t.Errorf("Of(%s) = %s, %v, %v, want %s, %v", c.e, text(f), returns, e, c.want, c.returns)
		}
	}
	if f, returns, e := Of(parsed(t, "<G>"), nil); text(f) != "e.1" || !returns || e != api.OK {
		t.Errorf("Of without formats = %s, %v, %v", text(f), returns, e)
	}
	many := strings.Repeat("<F>", 1000)
	if f, _, e := Of(parsed(t, many), []Format{{Name: "F", Returns: true, Result: parsed(t, row("s.", 1, 1000))}}); len(f) != 1000000 || f[999999].Text != "1000000" || e != api.OK {
		t.Errorf("Of many terms has %d, %v", len(f), e)
	}
}

func TestOfErrors(t *testing.T) {
	wrong, none := parsed(t, "s.2"), []api.Term(nil)
	for want, l := range faulty() {
		if f, returns, e := Of(l, []Format{{Arg: wrong}}); len(f) > 0 || returns || e != want {
			t.Errorf("Of = %v, %v, %v, want %v", f, returns, e, want)
		}
	}
	for _, c := range []struct {
		l    []Format
		want api.Errno
	}{
		{[]Format{{Arg: wrong}}, ErrFormat},
		{[]Format{{Result: wrong}}, ErrFormat},
		{[]Format{{}, {Arg: wrong, Result: make([]api.Term, 4001)}}, ErrFormat},
		{[]Format{{Arg: make([]api.Term, 4001), Result: wrong}}, api.ErrCount},
		{[]Format{{Result: make([]api.Term, 4001)}, {Arg: wrong}}, api.ErrCount},
		{[]Format{{Name: "F", Returns: true}, {Name: "F", Arg: parsed(t, "<F>")}}, api.ErrForm},
	} {
		if f, returns, e := Of(none, c.l); len(f) > 0 || returns || e != c.want {
			t.Errorf("Of with %v = %v, %v, %v, want %v", c.l, f, returns, e, c.want)
		}
	}
}

func TestJoin(t *testing.T) {
	for _, c := range []struct{ f, g, want string }{
		{"", "", ""},
		{"s.1", "s.1", "s.1"},
		{"s.1", "t.1", "t.1"},
		{"s.1", "(s.1)", "t.1"},
		{"t.1", "()", "t.1"},
		{"t.1", "t.1", "t.1"},
		{"()", "(e.1)", "(e.1)"},
		{"(s.1)", "(s.1 s.2)", "(s.1 e.2)"},
		{"(s.1 (t.2))", "(s.1 (s.2))", "(s.1 (t.2))"},
		{"s.1 (e.2)", "s.1", "s.1 e.2"},
		{"s.1 (e.2) s.3", "(s.1) t.2 t.3", "t.1 t.2 t.3"},
		{"", "s.1", "e.1"},
		{"", "e.1", "e.1"},
		{"s.1", "e.1", "e.1"},
		{"s.1", "s.1 e.2", "s.1 e.2"},
		{"s.1", "e.1 s.2", "e.1 s.2"},
		{"s.1 s.2", "s.1 e.2 s.3", "s.1 e.2 s.3"},
		{"s.1", "s.1 e.2 s.3", "s.1 e.2"}, // the only term is counted from the left
		{"s.1 s.2 (s.3)", "s.1 e.2 t.3 ()", "s.1 e.2 t.3 (e.4)"},
		{"s.1 s.2 (s.3)", "e.1 t.2 t.3 t.4 ()", "e.1 t.2 t.3 (e.4)"},
		{"s.1 t.2 e.3", "s.1 e.2", "s.1 e.2"},
		{"s.1 e.2 s.3", "() e.1 () s.2", "t.1 e.2 s.3"},
		{"e.1 s.2 ()", "e.1 ()", "e.1 ()"},
		{"e.1 s.2", "s.1 e.2", "e.1"},
		{"t.1 e.2", "e.1 t.2", "e.1"},
		{"(s.1 (e.2) s.3) e.4", "(s.1 s.2) s.3", "(s.1 t.2 e.3) e.4"},
	} {
		for _, in := range [][2]string{{c.f, c.g}, {c.g, c.f}} {
			if f, e := Join(parsed(t, in[0]), parsed(t, in[1])); text(f) != c.want || e != api.OK {
				t.Errorf("Join(%s, %s) = %s, %v, want %s", in[0], in[1], text(f), e, c.want)
			}
		}
	}
}

func TestCut(t *testing.T) {
	for _, c := range []struct{ f, want string }{
		{"", ""},
		{"s.1 (e.2) t.3", "s.1 (e.2) t.3"},
		{row("s.", 1, 12), row("s.", 1, 12)},
		{row("s.", 1, 13), row("s.", 1, 6) + " e.7 " + row("s.", 8, 12)},
		{row("t.", 1, 30), row("t.", 1, 6) + " e.7 " + row("t.", 8, 12)},
		{row("t.", 1, 9) + " " + row("s.", 10, 14), row("t.", 1, 6) + " e.7 " + row("s.", 8, 12)},
		{row("t.", 1, 9) + " s.10 s.11 s.12 s.13", row("t.", 1, 6) + " e.7 t.8 s.9 s.10 s.11 s.12"},
		{row("s.", 1, 11) + " e.12", row("s.", 1, 11) + " e.12"},
		{row("s.", 1, 12) + " e.13", row("s.", 1, 11) + " e.12"},
		{row("s.", 1, 11) + " e.12 t.13", row("s.", 1, 10) + " e.11 t.12"},
		{row("s.", 1, 9) + " e.10 t.11 t.12 s.13", row("s.", 1, 8) + " e.9 t.10 t.11 s.12"},
		{row("s.", 1, 7) + " e.8 t.9 " + row("s.", 10, 14), row("s.", 1, 6) + " e.7 " + row("s.", 8, 12)},
		{row("s.", 1, 6) + " e.7 t.8 " + row("s.", 9, 13), row("s.", 1, 6) + " e.7 " + row("s.", 8, 12)},
		{row("s.", 1, 5) + " e.6 t.7 t.8 " + row("s.", 9, 13), row("s.", 1, 5) + " e.6 t.7 " + row("s.", 8, 12)},
		{"s.1 e.2 () " + row("s.", 3, 13), "s.1 e.2 " + row("s.", 3, 12)},
		{"e.1 () " + row("s.", 2, 12), "e.1 " + row("s.", 2, 12)},
		{"e.1 " + row("s.", 2, 12), "e.1 " + row("s.", 2, 12)},
		{brackets(4, ""), brackets(4, "")},
		{brackets(4, "s.1 e.2"), brackets(4, "s.1 e.2")},
		{brackets(5, ""), brackets(4, "t.1")},
		{brackets(5, "s.1 e.2") + " s.3", brackets(4, "t.1") + " s.2"},
		{brackets(4, "s.1 (e.2) s.3 (t.4) t.5"), brackets(4, "s.1 t.2 s.3 t.4 t.5")},
		{brackets(100, "e.1"), brackets(4, "t.1")},
		{"(" + row("s.", 1, 13) + ") s.14", "(" + row("s.", 1, 6) + " e.7 " + row("s.", 8, 12) + ") s.13"},
		{brackets(4, row("s.", 1, 13)), brackets(4, row("s.", 1, 6)+" e.7 "+row("s.", 8, 12))},
		{brackets(3, row("s.", 1, 12)+" (e.13)"), brackets(3, row("s.", 1, 6)+" e.7 "+row("s.", 8, 11)+" (e.12)")},
	} {
		if f, e := Cut(parsed(t, c.f)); text(f) != c.want || e != api.OK {
			t.Errorf("Cut(%s) = %s, %v, want %s", c.f, text(f), e, c.want)
		}
	}
}

func TestWithin(t *testing.T) {
	for _, c := range []struct {
		f, g string
		want bool
	}{
		{"", "", true}, {"", "e.1", true}, {"e.1", "", false}, {"s.1", "", false}, {"", "s.1", false}, {"", "s.1 e.2", false},
		{"s.1", "s.1", true}, {"s.1", "t.1", true}, {"t.1", "s.1", false}, {"()", "t.1", true}, {"t.1", "(e.1)", false}, {"(s.1)", "(e.1)", true},
		{"(e.1)", "(s.1)", false}, {"()", "s.1", false}, {"s.1", "()", false}, {"s.1", "s.1 s.2", false}, {"s.1 s.2", "s.1", false}, {"t.1", "e.1", true},
		{"e.1", "t.1", false}, {"s.1 e.2", "s.1 s.2", false}, {"e.1", "e.1", true}, {"s.1 s.2", "t.1 e.2", true}, {"s.1 s.2", "e.1 (e.2)", false},
		{"s.1", "s.1 e.2", true}, {"s.1", "e.1 s.2", true}, {"s.1 ()", "s.1 e.2 (e.3)", true}, {"s.1", "s.1 e.2 s.3", false}, {"s.1 e.2", "s.1 e.2 s.3", false},
		{"s.1 e.2 s.3", "s.1 e.2", true}, {"s.1 e.2 s.3", "s.1 e.2 s.3", true}, {"s.1 s.2 e.3", "s.1 e.2 s.3", false}, {"s.1 s.2 e.3", "s.1 e.2 t.3", true},
		{"t.1 e.2", "e.1 t.2", true}, {"e.1 t.2", "t.1 e.2", true}, {"e.1 s.2", "s.1 e.2", false}, {"e.1 s.2", "t.1 e.2", true}, {"e.1 s.2", "t.1 e.2 s.3", false},
		{"e.1 s.2 s.3", "t.1 e.2 s.3", true}, {"e.1 s.2 s.3", "t.1 e.2 t.3", true}, {"e.1 s.2 s.3", "t.1 t.2 e.3", true}, {"e.1 s.2 s.3", "t.1 s.2 e.3", false},
		{"s.1 e.2 s.3", "e.1 t.2 s.3", true}, {"s.1 e.2 s.3", "e.1 s.2 s.3", false}, {"s.1 e.2 s.3", "e.1 t.2 t.3 s.4", false},
		{"s.1 () s.2", "e.1 s.2 t.3 s.4", true}, {"s.1 () s.2", "s.1 t.2 e.3", true}, {"s.1 () s.2", "s.1 s.2 e.3", false}, {"(s.1 e.2) s.3", "(e.1) e.2", true},
		{"(s.1 (e.2))", "(e.1 (s.2))", false}, {"(s.1 (s.2))", "(e.1 (e.2))", true},
	} {
		if ok, e := Within(parsed(t, c.f), parsed(t, c.g)); ok != c.want || e != api.OK {
			t.Errorf("Within(%s, %s) = %v, %v, want %v", c.f, c.g, ok, e, c.want)
		}
	}
}

func TestHas(t *testing.T) {
	for _, c := range []struct {
		f, value string
		want     bool
	}{
		{"", "", true}, {"", "A", false}, {"s.1", "", false}, {"s.1", "A", true}, {"s.1", "'a'", true}, {"s.1", "-7", true}, {"s.1", "()", false}, {"s.1", "A B", false},
		{"t.1", "()", true}, {"t.1", "A", true}, {"t.1", "", false}, {"t.1", "A A", false}, {"e.1", "", true}, {"e.1", "A (B) 'c'", true}, {"()", "()", true},
		{"()", "(A)", false}, {"()", "A", false}, {"(s.1) e.2", "(A) B", true}, {"(s.1) e.2", "(A B)", false}, {"(s.1) e.2", "A", false},
		{"s.1 e.2 (e.3)", "A ()", true}, {"s.1 e.2 (e.3)", "A", false}, {"s.1 e.2 (e.3)", "A () B", false}, {"s.1 e.2 (e.3)", "A () B (C)", true},
		{"s.1 e.2 s.3", "A", false}, {"s.1 e.2 s.3", "A B", true}, {"e.1 s.2 ()", "() A ()", true}, {"e.1 s.2 ()", "A () ()", false},
		{"((e.1 s.2)) t.3", "((() A)) B", true}, {"((e.1 s.2)) t.3", "((A ())) B", false}, {"s.1 s.2", "A A", true},
	} {
		if ok, e := Has(parsed(t, c.f), parsed(t, c.value)); ok != c.want || e != api.OK {
			t.Errorf("Has(%s, %s) = %v, %v, want %v", c.f, c.value, ok, e, c.want)
		}
	}
}

func TestErrors(t *testing.T) {
	right, wrong := parsed(t, "e.1"), parsed(t, "s.2")
	bad := faulty()
	bad[ErrFormat] = wrong
	for want, l := range bad {
		other := wrong
		if want == ErrFormat {
			other = bad[api.ErrCount]
		}
		if f, e := Cut(l); len(f) > 0 || e != want {
			t.Errorf("Cut = %v, %v, want %v", f, e, want)
		}
		for _, in := range [][2][]api.Term{{l, other}, {l, right}, {right, l}} {
			if f, e := Join(in[0], in[1]); len(f) > 0 || e != want {
				t.Errorf("Join = %v, %v, want %v", f, e, want)
			}
			if ok, e := Within(in[0], in[1]); ok || e != want {
				t.Errorf("Within = %v, %v, want %v", ok, e, want)
			}
		}
		if ok, e := Has(l, other); ok || e != want {
			t.Errorf("Has = %v, %v, want %v", ok, e, want)
		}
		if want == ErrFormat {
			want = api.ErrForm
		}
		if ok, e := Has(right, l); ok || e != want {
			t.Errorf("Has of a wrong value = %v, %v, want %v", ok, e, want)
		}
	}
	if ok, e := Has(right, parsed(t, "s.1")); ok || e != api.ErrForm {
		t.Errorf("Has of a variable = %v, %v, want ErrForm", ok, e)
	}
}

// The results share no memory with the arguments.
func TestMemory(t *testing.T) {
	f, g := parsed(t, "s.1 (e.2) t.3"), parsed(t, "s.1 (e.2) t.3")
	join, _ := Join(f, g)
	cut, _ := Cut(f)
	of, _, _ := Of(f, nil)
	f[0].Kind, g[0].Kind, f[1].Kids[0].Kind, g[1].Kids[0].Kind = api.TVar, api.TVar, api.TVar, api.TVar
	for _, l := range [][]api.Term{join, cut, of} {
		if text(l) != "s.1 (e.2) t.3" {
			t.Errorf("a result became %s", text(l))
		}
	}
}

// formatsText returns the text of formats.
func formatsText(l []Format) string {
	var lines []string
	for _, f := range l {
		arg, result := "none", "none"
		if f.Takes {
			arg = text(f.Arg)
		}
		if f.Returns {
			result = text(f.Result)
		}
		lines = append(lines, f.Name+": "+arg+" -> "+result)
	}
	return strings.Join(lines, "; ")
}

func TestInfer(t *testing.T) {
	many := strings.Repeat("A ", 13)
	for _, c := range []struct{ p, want string }{
		{"F { = A; s.x e.y = <F e.y> (s.x); }", "F: e.1 -> s.1 e.2"},
		{"F { = ; s.x e.y = e.y (s.x); }", "F: e.1 -> e.1"},
		{"F { = ; }", "F:  -> "},
		{"F { e.1 = <F e.1>; }", "F: e.1 -> none"},
		{"F { e.1 = <G e.1>; } G { e.1 = <F e.1>; }", "F: e.1 -> none; G: e.1 -> none"},
		{"F { s.1 = <G A>; (e.1) = e.1 (<F>); } G { e.1 = <F e.1>; A = 'ab'; }", "F: t.1 -> e.1 t.2; G: e.1 -> e.1 t.2"},
		{"F { e.1 = A <G> B; } G { = <G>; }", "F: e.1 -> none; G:  -> none"},
		{"F { e.1 = A <Add 1 2>; }", "F: e.1 -> s.1 e.2"},
		{"F { (s.1 e.2) s.x = (s.1) A; (s.1) t.x = (s.1 s.1) t.x; }", "F: (s.1 e.2) t.3 -> (s.1 e.2) t.3"},
		{"F { = A; s.x e.y = (<F e.y>); }", "F: e.1 -> t.1"},
		{"F { = ; s.x e.y = (<F e.y>); }", "F: e.1 -> e.1"},
		{"F { = (); s.x e.y = (<F e.y>); }", "F: e.1 -> (e.1)"},
		{"F { = A ((((())))); }", "F:  -> s.1 ((((t.2))))"},
		{"F { = <F> A; e.1 = <G> e.1; } G { = 'a' <F>; = B; }", "F: e.1 -> s.1 e.2; G:  -> s.1 e.2"},
		{"F { " + many + " = ; }", "F: " + row("s.", 1, 6) + " e.7 " + row("s.", 8, 12) + " -> "},
		{"F { " + many + " = ; " + strings.Repeat("(A) ", 6) + " = ; }", "F: " + row("t.", 1, 6) + " e.7 -> "},
		{"F { e.x = 1 e.x 'ab' e.x; } G { = <F>; = <F> 2; }", "F: e.1 -> s.1 e.2; G:  -> s.1 e.2"},
		{"F { = <G>; } G { = ; = <H>; } H { = A <F>; }", "F:  -> e.1; G:  -> e.1; H:  -> s.1 e.2"},
	} {
		l, e := Infer(program(t, c.p))
		if formatsText(l) != c.want || e != api.OK {
			t.Errorf("Infer(%s) = %s, %v, want %s", c.p, formatsText(l), e, c.want)
		}
	}
	if l, e := Infer(api.Program{}); len(l) > 0 || e != api.OK {
		t.Errorf("Infer of no program = %v, %v", l, e)
	}
}

// Patterns and results are cut ahead of the join: otherwise more would be left of fronts.
func TestInferCutsFirst(t *testing.T) {
	list := func(front, rear int) string {
		return strings.Repeat("(A) ", front) + "e.x " + strings.Repeat("A ", rear)
	}
	p := program(t, "F { "+list(12, 12)+" = ; "+list(12, 0)+" = ; } G { e.x = "+list(12, 12)+"; e.x = "+list(12, 0)+"; }")
	l, e := Infer(p)
	want := "(s.1) (s.2) (s.3) (s.4) (s.5) (s.6) e.7"
	if want = "F: " + want + " -> ; G: e.1 -> " + want; formatsText(l) != want || e != api.OK {
		t.Errorf("Infer = %s, %v, want %s", formatsText(l), e, want)
	}
}

func TestInferLargeResults(t *testing.T) {
	s := ""
	for _, names := range []string{"FG", "GH", "HK", "KL"} {
		s += names[:1] + " { = " + strings.Repeat("(<"+names[1:]+">) ", 12) + "; } "
	}
	p := program(t, s+"L { = "+strings.Repeat("A ", 12)+"; }")
	l, e := Infer(p)
	nodes, depth := term.Size(l[0].Result)
	if want := 12 * (1 + 12*(1+12*(1+12*(1+12)))); nodes != want || depth != 4 || e != api.OK {
		t.Fatalf("Infer has %d terms, %d deep, %v, want %d", nodes, depth, e, want)
	}
	if last := text(l[0].Result); !strings.HasSuffix(last, " s.248832))))") {
		t.Errorf("the last variable is that of %s", last[len(last)-20:])
	}
	if i, k, e := Verify(p, l); i != 0 || k != 0 || e != ErrFormat {
		t.Errorf("Verify = %d, %d, %v, want ErrFormat", i, k, e)
	}
}

func TestProgramErrors(t *testing.T) {
	unbound := api.Program{Functions: []api.Function{{Name: "F", Sentences: []api.Sentence{{Right: parsed(t, "s.x")}}}}}
	for _, c := range []struct {
		p    api.Program
		want api.Errno
	}{
		{unbound, check.ErrUnbound},
		{api.Program{Functions: []api.Function{{Name: "F"}}}, api.ErrCount},
		{api.Program{Functions: []api.Function{{Name: "1"}}}, check.ErrName},
		{program(t, "F { e.1, e.1 : A = ; }"), api.ErrCore},
		{program(t, "F { e.1, e.1 : { = ; }; }"), api.ErrCore},
	} {
		if l, e := Infer(c.p); len(l) > 0 || e != c.want {
			t.Errorf("Infer = %v, %v, want %v", l, e, c.want)
		}
		if i, k, e := Verify(c.p, nil); i != 0 || k != 0 || e != c.want {
			t.Errorf("Verify = %d, %d, %v, want %v", i, k, e, c.want)
		}
	}
}

// format returns one of a function with texts of an argument and of a result; "none" is none.
func format(t *testing.T, name, arg, result string) Format {
	t.Helper()
	f := Format{Name: name, Takes: arg != "none", Returns: result != "none"}
	if f.Takes {
		f.Arg = parsed(t, arg)
	}
	if f.Returns {
		f.Result = parsed(t, result)
	}
	return f
}

func TestVerify(t *testing.T) {
	const p = "F { = A; s.x e.y = <G s.x> <F e.y>; } G { s.x = (s.x); }"
	for _, c := range []struct {
		p, argF, resultF, argG, resultG string
		function, sentence              int
		want                            api.Errno
	}{
		{p, "e.1", "e.1", "s.1", "(s.1)", 0, 0, api.OK},
		{p, "e.1", "e.1", "e.1", "t.1", 0, 0, api.OK},
		{p, "none", "none", "none", "none", 0, 0, ErrLeft},
		{p, "s.1 e.2", "e.1", "s.1", "(s.1)", 0, 0, ErrLeft},
		{p, "", "e.1", "s.1", "(s.1)", 0, 1, ErrLeft},
		{p, "e.1", "none", "s.1", "(s.1)", 0, 0, ErrResult},
		{p, "e.1", "(e.1)", "s.1", "(s.1)", 0, 0, ErrResult},
		{p, "e.1", "s.1", "s.1", "(s.1)", 0, 1, ErrResult},
		{p, "e.1", "s.1", "s.1", "none", 1, 0, ErrResult},
		{p, "e.1", "e.1", "(e.1)", "(s.1)", 0, 1, ErrCall},
		{p, "e.1", "e.1", "none", "(s.1)", 0, 1, ErrCall},
		{p, "e.1", "e.1", "s.1", "(s.1 s.2)", 1, 0, ErrResult},
		{p, "e.1", "e.1", "s.1", "", 1, 0, ErrResult},
		// calls in calls, in order
		{"F { = <F <G A>>; } G { = B; }", "", "e.1", "", "", 0, 0, ErrCall},
		{"F { = (<F (<G B>)>); A = ; } G { s.1 = <G s.1>; }", "e.1", "e.1", "s.1", "none", 0, 0, api.OK},
		{"F { = (<F (<G B>)>); A = ; } G { s.1 = <G s.1>; }", "e.1", "none", "s.1", "none", 0, 1, ErrResult},
		{"F { = <Add (<G B C>)>; } G { s.1 = ; }", "", "e.1", "s.1", "", 0, 0, ErrCall},
		{"F { = <G <G A>>; } G { s.1 = <G s.1>; }", "", "none", "s.1", "none", 0, 0, api.OK}, // nothing comes to the outer call
		{"F { = <G <Add>>; } G { e.1 = <G e.1>; }", "", "none", "e.1", "none", 0, 0, api.OK},
		{"F { = <G <Add>>; } G { s.1 = <G s.1>; }", "", "none", "s.1", "none", 0, 0, ErrCall},
		{"F { = <G <F> B>; } G { e.1 = A; }", "", "s.1", "none", "s.1", 0, 0, ErrCall},
		{"F { = <F>; } G { = <G (<F>)>; }", "", "none", "", "none", 0, 0, api.OK},
		{"F { = A <F>; } G { = <G <F>>; }", "", "none", "", "none", 0, 0, api.OK},
		{"F { = <G>; } G { = ; }", "", "", "none", "", 0, 0, ErrCall},
		{"F { = <G>; } G { = ; }", "", "", "", "", 0, 0, api.OK},
		// of the errors of a sentence the first one
		{"F { = <G A> B; } G { = ; }", "A", "", "none", "", 0, 0, ErrFormat},
		{"F { s.1 = <G A> B; } G { = ; }", "", "", "none", "", 0, 0, ErrLeft},
		{"F { = <G A> B; } G { = ; }", "", "", "none", "", 0, 0, ErrCall},
		{"F { = <G A> B; } G { s.1 = ; }", "", "", "s.1", "", 0, 0, ErrResult},
		{"F { = ; = ; = ; } G { = ; = A; B = ; }", "", "", "", "", 1, 1, ErrResult},
	} {
		l := []Format{}
		if c.argF == "A" {
			l = append(l, Format{Name: "F", Takes: true, Arg: parsed(t, "A"), Returns: true})
		} else {
			l = append(l, format(t, "F", c.argF, c.resultF))
		}
		l = append(l, format(t, "G", c.argG, c.resultG))
		i, k, e := Verify(program(t, c.p), l)
		if i != c.function || k != c.sentence || e != c.want {
			t.Errorf("Verify(%s) with %s = %d, %d, %v, want %d, %d, %v", c.p, formatsText(l), i, k, e, c.function, c.sentence, c.want)
		}
	}
}

func TestRightFormats(t *testing.T) {
	p := program(t, "F { e.1 = <F>; } G { e.1 = <G>; }")
	f, g := format(t, "F", "e.1", "none"), format(t, "G", "e.1", "none")
	changed := func(change func(f *Format)) []Format {
		x := f
		change(&x)
		return []Format{x, g}
	}
	result := func(s string) []Format {
		return changed(func(f *Format) { f.Returns, f.Result = true, parsed(t, s) })
	}
	for name, c := range map[string]struct {
		l    []Format
		want api.Errno
	}{
		"both":                         {[]Format{f, g}, api.OK},
		"12 terms":                     {result(row("s.", 1, 12)), api.OK},
		"4 levels":                     {result(brackets(4, "e.1")), api.OK},
		"none":                         {nil, ErrFormat},
		"one":                          {[]Format{f}, ErrFormat},
		"three":                        {[]Format{f, g, g}, ErrFormat},
		"another order":                {[]Format{g, f}, ErrFormat},
		"another name":                 {changed(func(f *Format) { f.Name = "H" }), ErrFormat},
		"an argument without Takes":    {changed(func(f *Format) { f.Takes = false }), ErrFormat},
		"a result without Returns":     {changed(func(f *Format) { f.Result = f.Arg }), ErrFormat},
		"a wrong argument":             {changed(func(f *Format) { f.Arg = parsed(t, "e.2") }), ErrFormat},
		"an argument that is none":     {changed(func(f *Format) { f.Arg = make([]api.Term, 4001) }), ErrFormat},
		"a wrong result":               {result("A"), ErrFormat},
		"13 terms":                     {result(row("s.", 1, 13)), ErrFormat},
		"13 terms in brackets":         {result("s.1 (" + row("s.", 2, 14) + ")"), ErrFormat},
		"13 terms in 4 brackets":       {result(brackets(4, row("s.", 1, 13))), ErrFormat},
		"5 levels":                     {result(brackets(5, "")), ErrFormat},
		"an argument with 13 terms":    {changed(func(f *Format) { f.Arg = parsed(t, row("s.", 1, 12)+" e.13") }), ErrFormat},
		"an argument with 5 levels":    {changed(func(f *Format) { f.Arg = parsed(t, "e.1 "+brackets(5, "")) }), ErrFormat},
		"a wrong one for G":            {[]Format{f, {Name: "G", Takes: true, Arg: parsed(t, "s.2")}}, ErrFormat},
		"an empty list that is no nil": {changed(func(f *Format) { f.Result = []api.Term{} }), api.OK},
	} {
		if i, k, e := Verify(p, c.l); i != 0 || k != 0 || e != c.want {
			t.Errorf("Verify with %s = %d, %d, %v, want %v", name, i, k, e, c.want)
		}
	}
}
