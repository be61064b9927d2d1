package meta_test

import (
	"math/rand"
	"testing"

	"chiasmus/api"
	"chiasmus/check"
	"chiasmus/meta"
	"chiasmus/term"
)

// generator makes expressions, values and programs; its numbers are the same in each run.
type generator struct{ *rand.Rand }

func newGenerator(seed int64) generator { return generator{rand.New(rand.NewSource(seed))} }

// expression returns one whose terms have kinds up to last; many of its symbols are those of metacode.
func (g generator) expression(last, depth int) []api.Term {
	var l []api.Term
	for range g.Intn(5) {
		l = append(l, g.term(last, depth))
	}
	return l
}

func (g generator) term(last, depth int) api.Term {
	switch k := 1 + g.Intn(last); {
	case k == api.Word:
		return api.Term{Kind: k, Text: []string{"x", "F", "*", "ENTRY", "1"}[g.Intn(5)]}
	case k == api.Number:
		return api.Term{Kind: k, Text: []string{"0", "-7"}[g.Intn(2)]}
	case k == api.Group && depth > 0:
		return api.Term{Kind: k, Kids: g.expression(last, depth-1)}
	case k == api.Call && depth > 0:
		return api.Term{Kind: k, Text: []string{"F", "g-1"}[g.Intn(2)], Kids: g.expression(last, depth-1)}
	case api.SVar <= k && k <= api.EVar:
		return api.Term{Kind: k, Text: []string{"1", "x", "V"}[g.Intn(3)]}
	}
	return api.Term{Kind: api.Char, Text: "*VSTEa"[g.Intn(6):][:1]}
}

func TestThereAndBack(t *testing.T) {
	g := newGenerator(1)
	for range 5000 {
		e := g.expression(api.Call, 3)
		v, code := meta.Up(e)
		if code != api.OK || term.Value(v) != api.OK {
			t.Fatalf("Up(%s) = %s, %v", text(e), text(v), code)
		}
		if l, code := meta.Dn(v); !term.Equal(l, e) || code != api.OK {
			t.Fatalf("Dn of Up(%s) = %s, %v", text(e), text(l), code)
		}
		if levels := g.Intn(11); levels > 0 {
			raised, code := meta.Raise(e, levels)
			if l, lower := meta.Lower(raised, levels); code == api.OK && (!term.Equal(l, e) || lower != api.OK) {
				t.Fatalf("Lower of Raise(%s, %d) = %s, %v", text(e), levels, text(l), lower)
			}
			one, _ := meta.Raise(v, levels-1)
			if !term.Equal(raised, one) {
				t.Fatalf("Raise(%s, %d) = %s", text(e), levels, text(raised))
			}
		}
	}
}

func TestBackAndThere(t *testing.T) {
	g := newGenerator(2)
	right := 0
	for range 30000 {
		v := g.expression(api.Group, 2)
		l, code := meta.Dn(v)
		if code == meta.ErrMeta {
			continue
		}
		right++
		if again, up := meta.Up(l); !term.Equal(again, v) || code != api.OK || up != api.OK || term.Result(l) != api.OK {
			t.Fatalf("Up of Dn(%s) = %s, %v, %v", text(v), text(again), code, up)
		}
		levels := g.Intn(4)
		if l, code := meta.Lower(v, levels); code == api.OK {
			if again, code := meta.Raise(l, levels); !term.Equal(again, v) || code != api.OK {
				t.Fatalf("Raise of Lower(%s, %d) = %s, %v", text(v), levels, text(again), code)
			}
		}
	}
	if right < 5000 || right > 29000 {
		t.Errorf("%d values were metacode", right)
	}
}

func TestPieces(t *testing.T) {
	g := newGenerator(3)
	seen := map[string]string{}
	for range 5000 {
		a, b := g.expression(api.Call, 2), g.expression(api.Call, 2)
		x, _ := meta.Up(a)
		y, _ := meta.Up(b)
		both, code := meta.Up(append(term.Copy(a), b...))
		if !term.Equal(both, append(x, y...)) || code != api.OK {
			t.Fatalf("Up of %s and %s = %s, %v", text(a), text(b), text(both), code)
		}
		if other, ok := seen[text(y)]; ok && other != text(b) {
			t.Fatalf("%s and %s have the same metacode", other, text(b))
		}
		seen[text(y)] = text(b)
	}
}

func TestPlainValues(t *testing.T) {
	g := newGenerator(4)
	plain := 0
	for range 5000 {
		v := g.expression(api.Group, 3)
		if hasStar(v) {
			continue
		}
		plain++
		up, code := meta.Up(v)
		dn, also := meta.Dn(v)
		if !term.Equal(up, v) || !term.Equal(dn, v) || code != api.OK || also != api.OK {
			t.Fatalf("Up of %s is %s, Dn %s", text(v), text(up), text(dn))
		}
	}
	if plain < 500 {
		t.Errorf("only %d values were plain", plain)
	}
}

func hasStar(l []api.Term) bool {
	for _, t := range l {
		if t.Kind == api.Char && t.Text == "*" || hasStar(t.Kids) {
			return true
		}
	}
	return false
}

// program returns one that may have errors.
func (g generator) program() api.Program {
	var p api.Program
	for _, name := range []string{"F", "g-1", "Go"}[:g.Intn(4)] {
		f := api.Function{Name: name, Entry: g.Intn(2) == 0}
		for range 1 + g.Intn(3) {
			f.Sentences = append(f.Sentences, api.Sentence{Left: g.expression(api.EVar, 2), Right: g.expression(api.Call, 2)})
		}
		p.Functions = append(p.Functions, f)
	}
	return p
}

func TestPrograms(t *testing.T) {
	g := newGenerator(5)
	right := 0
	for range 5000 {
		p := g.program()
		_, fault := check.Program(p)
		v, code := meta.Program(p)
		if code != fault {
			t.Fatalf("Program = %v, but the program has the error %v", code, fault)
		}
		if code != api.OK {
			continue
		}
		right++
		q, code := meta.Read(v)
		if !same(p, q) || code != api.OK {
			t.Fatalf("Read of Program = %v, %v, want %v", q, code, p)
		}
		if again, code := meta.Program(q); !term.Equal(again, v) || code != api.OK {
			t.Fatalf("Program of Read(%s) = %s, %v", text(v), text(again), code)
		}
		checkSentences(t, p, v)
	}
	if right < 500 {
		t.Errorf("only %d programs had no error", right)
	}
}

// checkSentences looks for the metacode of sentences in that of their program.
func checkSentences(t *testing.T, p api.Program, v []api.Term) {
	t.Helper()
	for i, f := range p.Functions {
		for j, s := range f.Sentences {
			u, code := meta.Sentence(s)
			if !term.Equal([]api.Term{u}, v[i].Kids[2+j:3+j]) || code != api.OK {
				t.Fatalf("sentence %d of %s = %s, %v", j, f.Name, text([]api.Term{u}), code)
			}
		}
	}
}

// form returns the metacode that an expression would have, if all its names were right.
func form(l []api.Term) []api.Term {
	group := func(l []api.Term) api.Term { return api.Term{Kind: api.Group, Kids: l} }
	var v []api.Term
	for _, t := range l {
		word := api.Term{Kind: api.Word, Text: t.Text}
		switch {
		case t.Kind == api.Char && t.Text == "*":
			v = append(v, term.Chars("*V")...)
		case t.Kind == api.Group:
			v = append(v, group(form(t.Kids)))
		case t.Kind == api.Call:
			v = append(append(v, term.Chars("*")...), group(append([]api.Term{word}, form(t.Kids)...)))
		case term.IsVariable(t):
			v = append(append(v, term.Chars("*"+string("STE"[t.Kind-api.SVar]))...), word)
		default:
			v = append(v, t)
		}
	}
	return v
}

// programForm returns that of a program.
func programForm(p api.Program) []api.Term {
	group := func(l ...api.Term) api.Term { return api.Term{Kind: api.Group, Kids: l} }
	var v []api.Term
	for _, f := range p.Functions {
		l := []api.Term{{Kind: api.Word, Text: f.Name}, {Kind: api.Word, Text: "LOCAL"}}
		if f.Entry {
			l[1].Text = "ENTRY"
		}
		for _, s := range f.Sentences {
			l = append(l, group(group(form(s.Left)...), group(form(s.Right)...)))
		}
		v = append(v, group(l...))
	}
	return v
}

// misname gives some variables and calls other words as names, which may be wrong.
func (g generator) misname(l []api.Term) {
	for i := range l {
		if l[i].Kind >= api.SVar && g.Intn(4) == 0 {
			l[i].Text = []string{"1", "a-b", "x y", "*", "G"}[g.Intn(5)]
		}
		g.misname(l[i].Kids)
	}
}

func TestWrongNames(t *testing.T) {
	g := newGenerator(6)
	for range 5000 {
		e := g.expression(api.Call, 3)
		g.misname(e)
		l, code := meta.Dn(form(e))
		if term.Result(e) != api.OK {
			if code != meta.ErrMeta || len(l) != 0 {
				t.Fatalf("Dn(%s) = %s, %v", text(form(e)), text(l), code)
			}
		} else if !term.Equal(l, e) || code != api.OK {
			t.Fatalf("Dn(%s) = %s, %v", text(form(e)), text(l), code)
		}
	}
}

func TestProgramsWithWrongNames(t *testing.T) {
	g := newGenerator(7)
	seen := map[api.Errno]int{}
	for range 20000 {
		p := g.program()
		for i := range p.Functions {
			f := &p.Functions[i]
			if g.Intn(10) == 0 {
				f.Name = []string{"1", "F G", "F"}[g.Intn(3)]
			}
			for j := range f.Sentences {
				s := &f.Sentences[j]
				if g.Intn(10) == 0 {
					s.Left = g.expression(api.Call, 2)
				}
				g.misname(s.Left)
				g.misname(s.Right)
			}
		}
		_, want := check.Program(p)
		seen[want]++
		q, code := meta.Read(programForm(p))
		if code != want || code == api.OK && !same(p, q) || code != api.OK && len(q.Functions) != 0 {
			t.Fatalf("Read(%s) = %v, %v, want %v", text(programForm(p)), q, code, want)
		}
	}
	for _, code := range []api.Errno{api.OK, api.ErrForm, api.ErrDuplicate, check.ErrName, check.ErrUnbound, check.ErrCalls} {
		if seen[code] < 20 {
			t.Errorf("only %d programs had the error %v", seen[code], code)
		}
	}
}
