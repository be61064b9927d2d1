package bychance

import (
	"slices"
	"strings"
	"testing"

	"chiasmus/api"
	"chiasmus/apply"
	"chiasmus/check"
	"chiasmus/code"
	"chiasmus/match"
	"chiasmus/project"
	"chiasmus/term"
)

func samePrograms(a, b api.Program) bool {
	return slices.EqualFunc(a.Functions, b.Functions, func(f, g api.Function) bool {
		return f.Name == g.Name && f.Entry == g.Entry && slices.EqualFunc(f.Sentences, g.Sentences, func(s, r api.Sentence) bool {
			return term.Equal(s.Left, r.Left) && term.Equal(s.Right, r.Right) && len(s.Tests)+len(r.Tests)+len(s.Block)+len(r.Block)+len(s.Subject)+len(r.Subject) == 0
		})
	})
}

func sameSymbols(a, b api.Term) bool { return term.Equal([]api.Term{a}, []api.Term{b}) }

func sameRules(a, b code.Rule) bool {
	return slices.Equal(a.Plan.Given, b.Plan.Given) && slices.EqualFunc(a.Plan.Ops, b.Plan.Ops, func(x, y project.Op) bool {
		return x.Kind == y.Kind && x.Hole == y.Hole && x.Right == y.Right && x.Var == y.Var && sameSymbols(x.Symbol, y.Symbol)
	}) && slices.EqualFunc(a.Build, b.Build, func(x, y code.Ins) bool {
		return x.Kind == y.Kind && x.Text == y.Text && sameSymbols(x.Symbol, y.Symbol)
	})
}

func sameUnits(a, b code.Unit) bool {
	return slices.EqualFunc(a.Routines, b.Routines, func(r, s code.Routine) bool {
		return r.Name == s.Name && r.Entry == s.Entry && slices.EqualFunc(r.Rules, s.Rules, sameRules)
	})
}

func unitOf(t *testing.T, p api.Program) code.Unit {
	t.Helper()
	u, e := code.Compile(p)
	if e != api.OK {
		t.Fatalf("Compile = %v", e)
	}
	return u
}

// TestCodeBack has P19.2.
func TestCodeBack(t *testing.T) {
	g := newGenerator(25)
	for range 2000 {
		p, src := g.program(t)
		u := unitOf(t, p)
		if e := code.Check(u); e != api.OK {
			t.Fatalf("%s: Check = %v", src, e)
		}
		if q, e := code.Program(u); e != api.OK || !samePrograms(p, q) {
			t.Fatalf("%s: Program = %v, %v", src, q, e)
		}
		s, e := code.Write(u)
		if e != api.OK {
			t.Fatalf("%s: Write = %v", src, e)
		}
		if again, n, e := code.Read(s); e != api.OK || n != 0 || !sameUnits(again, u) {
			t.Fatalf("%s: Read of %s = %v, %d, %v", src, s, again, n, e)
		}
	}
}

// TestCodeBuilds has P19.3 and P19.4.
func TestCodeBuilds(t *testing.T) {
	g := newGenerator(26)
	built := 0
	for range 2000 {
		p, src := g.program(t)
		copies, moves := 0, 0
		for i, r := range unitOf(t, p).Routines {
			for k, rule := range r.Rules {
				s := p.Functions[i].Sentences[k]
				once := true
				for _, use := range apply.Uses(s.Right) {
					moves++
					copies += use.Times - 1
					once = once && use.Times == 1
					is := func(kind int) func(code.Ins) bool {
						return func(i code.Ins) bool { return i.Kind == kind && i.Text == use.Var }
					}
					move := slices.IndexFunc(rule.Build, is(code.Move))
					if move < 0 || slices.ContainsFunc(rule.Build[move+1:], is(code.Move)) || slices.ContainsFunc(rule.Build[move+1:], is(code.Copy)) {
						t.Fatalf("%s: the moves of %s are %v", src, text(s.Right), rule.Build)
					}
				}
				if once == slices.ContainsFunc(rule.Build, func(i code.Ins) bool { return i.Kind == code.Copy }) {
					t.Fatalf("%s: the copies of %s are %v", src, text(s.Right), rule.Build)
				}
				for range 5 {
					found, e := match.First(s.Left, parsed(t, g.value(2)), nil)
					if e != api.OK {
						continue
					}
					built++
					want, e := apply.To(s.Right, found)
					if l, e2 := code.Build(rule.Build, found); e2 != e || !term.Equal(l, want) {
						t.Fatalf("%s: Build of %s with %v = %v, %v", src, text(s.Right), found, l, e2)
					}
				}
			}
		}
		if c, m, e := code.Copies(unitOf(t, p)); e != api.OK || c != copies || m != moves {
			t.Fatalf("%s: Copies = %d, %d, %v, want %d, %d", src, c, m, e, copies, moves)
		}
	}
	if built < 3000 {
		t.Errorf("only %d results were built", built)
	}
}

// spoil changes a part of a unit by chance.
func (g *generator) spoil(u code.Unit) {
	if len(u.Routines) == 0 {
		return
	}
	r := &u.Routines[g.Intn(len(u.Routines))]
	if g.Intn(20) == 0 || len(r.Rules) == 0 {
		r.Name = g.one("F", "G", "1", "", "Other")
		return
	}
	rule := &r.Rules[g.Intn(len(r.Rules))]
	if g.Intn(2) == 0 && len(rule.Plan.Ops) > 0 {
		g.spoilPlan(&rule.Plan)
		return
	}
	at := g.Intn(len(rule.Build) + 1)
	i := code.Ins{Kind: g.Intn(9), Text: g.one("", "", "F", "e.1", "s.2", "e.3", "1")}
	if g.Intn(3) == 0 {
		i.Symbol = api.Term{Kind: g.Intn(5), Text: g.one("a", "B", "1", "")}
	}
	switch end := min(at+1, len(rule.Build)); g.Intn(4) {
	case 0:
		rule.Build = slices.Insert(rule.Build, at, i)
	case 1:
		rule.Build = slices.Delete(rule.Build, at, end)
	case 2:
		rule.Build = slices.Replace(rule.Build, at, end, i)
	default:
		if at < end {
			rule.Build[at].Kind = g.Intn(9)
		}
	}
}

func (g *generator) spoilPlan(p *project.Plan) {
	o := &p.Ops[g.Intn(len(p.Ops))]
	switch g.Intn(6) {
	case 0:
		o.Kind = g.Intn(10)
	case 1:
		o.Hole = g.Intn(3)
	case 2:
		o.Right = !o.Right
	case 3:
		o.Var = g.one("", "s.1", "e.2", "t.3")
	case 4:
		o.Symbol = api.Term{Kind: g.Intn(5), Text: g.one("a", "B", "1", "")}
	case 5:
		p.Given = append(p.Given, g.one("s.1", "e.2", "e.99"))
	}
}

// TestSpoiled spoils units: those that are taken still are just what their programs are compiled to.
func TestSpoiled(t *testing.T) {
	g := newGenerator(27)
	n := tally{}
	for range 10000 {
		p, src := g.program(t)
		u := unitOf(t, p)
		g.spoil(u)
		e := code.Check(u)
		n[outcome(e)]++
		q, e2 := code.Program(u)
		s, e3 := code.Write(u)
		copies, moves, e4 := code.Copies(u)
		if e4 != e || e != api.OK && (e2 != e || e3 != e || len(q.Functions) != 0 || s != "" || copies+moves != 0) {
			t.Fatalf("%s: Check of %v = %v, but Program %v, Write %v, Copies %v", src, u, e, e2, e3, e4)
		}
		if e != api.OK {
			continue
		}
		if _, e := check.Program(q); e != e2 {
			t.Fatalf("%s: Program = %v, %v", src, q, e2)
		}
		if e2 == api.OK && !sameUnits(unitOf(t, q), u) {
			t.Fatalf("%s: Check takes %v, but its program is compiled to %v", src, u, unitOf(t, q))
		}
	}
	n.need(t, 500, "error 0", "error 190", "error 210")
}

// TestSpoiledTexts spoils texts of units: what is read is written again, and a line that is wrong is the first one.
func TestSpoiledTexts(t *testing.T) {
	g := newGenerator(28)
	n := tally{}
	for range 10000 {
		p, src := g.program(t)
		s, e := code.Write(unitOf(t, p))
		if e != api.OK {
			t.Fatalf("%s: Write = %v", src, e)
		}
		l := strings.SplitAfter(strings.TrimSuffix(s, "\n"), "\n")
		l[len(l)-1] += "\n"
		at, other := g.Intn(len(l)), g.Intn(len(l))
		switch g.Intn(4) {
		case 0:
			l = slices.Delete(l, at, at+1)
		case 1:
			l[at] = l[other]
		case 2:
			l = slices.Insert(l, at, l[other])
		default:
			i := g.Intn(len(l[at]))
			l[at] = l[at][:i] + g.one("", " ", "1", "e", "'", "\n", "\xff") + l[at][i+g.Intn(2):]
		}
		s = strings.Join(l, "")
		u, number, e := code.Read(s)
		n[outcome(e)]++
		if (e == code.ErrLine) != (number > 0) || e != api.OK && len(u.Routines) > 0 {
			t.Fatalf("Read of %q = %v, %d, %v", s, u, number, e)
		}
		if again, e2 := code.Write(u); e == api.OK && (again != s || e2 != api.OK) {
			t.Fatalf("Read of %q is written as %q, %v", s, again, e2)
		}
		if e != code.ErrLine {
			continue
		}
		l = strings.SplitAfter(s, "\n")
		if _, _, e := code.Read(strings.Join(l[:number-1], "")); e == code.ErrLine {
			t.Fatalf("Read of %q = %d, but a line ahead of it is wrong", s, number)
		}
		if _, again, e := code.Read(strings.Join(l[:number], "")); again != number || e != code.ErrLine {
			t.Fatalf("Read of %q = %d, but of its beginning %d, %v", s, number, again, e)
		}
	}
	n.need(t, 200, "error 0", "error 190", "error 210", "error 211")
}
