// Package bychance has tests of the layers 11 to 14, 19 to 22, 24 and 25 with programs by chance: runs of the layers are compared with
// each other, and with runs that follow the chapters in the simplest way.
package bychance

import (
	"math/rand"
	"slices"
	"strconv"
	"strings"
	"testing"

	"chiasmus/api"
	"chiasmus/syntax"
	"chiasmus/term"
)

// generator makes texts of programs and expressions; its numbers are the same in each run.
type generator struct {
	*rand.Rand
	strict   bool // patterns leave no choice
	tests    bool // sentences may have conditions and blocks
	meta     bool // Mu and Dn may be called
	pure     bool // no built-in function is called
	variable int  // the number of the last variable
}

func newGenerator(seed int64) *generator { return &generator{Rand: rand.New(rand.NewSource(seed))} }

func (g *generator) one(l ...string) string { return l[g.Intn(len(l))] }

func (g *generator) symbol() string { return g.one("'a'", "'a'", "'b'", "'b'", "A", "1") }

// pattern returns the text of a pattern, and the variables that are bound with it besides others.
func (g *generator) pattern(bound []string, depth int) (string, []string) {
	var l []string
	open := false
	for range g.Intn(4) {
		switch k := g.Intn(12); {
		case k < 3:
			l = append(l, g.symbol())
		case k < 5:
			bound = g.put(&l, "s.", bound)
		case k == 5:
			bound = g.put(&l, "t.", bound)
		case k < 9 && !(g.strict && open):
			bound = g.put(&l, "e.", bound)
			open = true
		case k == 9 && depth > 0:
			s, more := g.pattern(bound, depth-1)
			l, bound = append(l, "("+s+")"), more
		case k == 10 && len(bound) > 0:
			if v := g.one(bound...); !g.strict || v[0] == 's' {
				l = append(l, v)
			}
		}
	}
	return strings.Join(l, " "), bound
}

// put puts a new variable to a list.
func (g *generator) put(l *[]string, kind string, bound []string) []string {
	g.variable++
	v := kind + strconv.Itoa(g.variable)
	*l = append(*l, v)
	return append(slices.Clone(bound), v)
}

// result returns the text of a result with some variables.
func (g *generator) result(bound []string, depth int) string {
	var l []string
	for range g.Intn(4) {
		switch k := g.Intn(12); {
		case k < 3:
			l = append(l, g.symbol())
		case k < 7 && len(bound) > 0:
			l = append(l, g.one(bound...))
		case k < 9 && depth > 0:
			l = append(l, "("+g.result(bound, depth-1)+")")
		case k < 11 && depth > 0:
			l = append(l, "<"+g.one("F", "G", "H")+" "+g.result(bound, depth-1)+">")
		case k == 11 && !g.pure:
			l = append(l, g.builtIn(g.result(bound, 0)))
		}
	}
	return strings.Join(l, " ")
}

// builtIn returns the text of a call of a built-in function, or of one that there is not.
func (g *generator) builtIn(arg string) string {
	if g.meta && g.Intn(3) == 0 {
		return g.one("<Mu G "+arg+">", "<Dn '*' (H "+arg+")>")
	}
	return g.one("<Br 'k=' "+arg+">", "<Br 'm=' "+arg+">", "<Dg 'k'>", "<Cp 'k'>", "<Rp 'k=' "+arg+">", "<Prout "+arg+">",
		"<Lenw "+arg+">", "<Type "+arg+">", "<First 1 "+arg+">", "<Add 1 "+arg+">", "<Symb 12>", "<Up "+arg+">", "<X "+arg+">")
}

// sentence returns the text of a sentence in so many blocks.
func (g *generator) sentence(bound []string, blocks int) string {
	s, bound := g.pattern(bound, 2)
	if g.tests {
		for range g.Intn(5) / 2 {
			s += ", " + g.small(bound) + " : "
			var p string
			p, bound = g.pattern(bound, 1)
			s += p
		}
		if blocks < 2 && g.Intn(6) == 0 {
			return s + ", " + g.small(bound) + " : { " + g.sentences(bound, blocks+1) + " }"
		}
	}
	return s + " = " + g.result(bound, 2)
}

// small returns the text of an expression of a condition: often without calls.
func (g *generator) small(bound []string) string {
	switch k := g.Intn(6); {
	case k < 3 && len(bound) > 0:
		return g.one(bound...) + " " + g.one("", g.one(bound...))
	case k == 3:
		return g.result(bound, 1)
	case k == 4 && len(bound) > 0:
		return "<" + g.one("F", "G", "H") + " " + g.one(bound...) + ">"
	}
	return g.result(bound, 0)
}

func (g *generator) sentences(bound []string, blocks int) string {
	s := ""
	for range 1 + g.Intn(3) {
		s += g.sentence(bound, blocks) + "; "
	}
	if g.Intn(2) == 0 {
		s += g.one("e.rest = e.rest", "t.rest e.more = (e.more)", "= Z") + ";"
	}
	return s
}

func (g *generator) text() string {
	return "$ENTRY F { " + g.sentences(nil, 0) + " } G { " + g.sentences(nil, 0) + " } H { " + g.sentences(nil, 0) + " }"
}

// program returns a program by chance.
func (g *generator) program(t *testing.T) (api.Program, string) {
	t.Helper()
	s := g.text()
	p, at, e := syntax.Program(s)
	if e != api.OK {
		t.Fatalf("Program(%q) = %d, %v", s, at, e)
	}
	return p, s
}

// expression returns the view field at the beginning of a run.
func (g *generator) expression(t *testing.T) []api.Term {
	t.Helper()
	s := g.result(nil, 2) + " <" + g.one("F", "G", "H") + " " + g.value(2) + "> " + g.result(nil, 1)
	return parsed(t, s)
}

// value returns the text of a value.
func (g *generator) value(depth int) string {
	var l []string
	for range g.Intn(5) {
		if g.Intn(5) == 0 && depth > 0 {
			l = append(l, "("+g.value(depth-1)+")")
		} else {
			l = append(l, g.symbol())
		}
	}
	return strings.Join(l, " ")
}

func parsed(t *testing.T, s string) []api.Term {
	t.Helper()
	l, at, e := term.Parse(s)
	if e != api.OK {
		t.Fatalf("Parse(%q) = %d, %v", s, at, e)
	}
	return l
}

// text returns the text of an expression, if it is not too large.
func text(l []api.Term) string {
	s, e := term.Text(l)
	if e != api.OK {
		return "error " + e.Error()
	}
	return s
}

func sameStores(a, b api.Store) bool {
	return slices.Equal(a.Output, b.Output) && slices.EqualFunc(a.Buried, b.Buried, func(x, y api.Buried) bool {
		return term.Equal(x.Key, y.Key) && term.Equal(x.Value, y.Value)
	})
}

func sameStates(a, b api.State) bool {
	return term.Equal(a.Field, b.Field) && sameStores(a.Store, b.Store) && a.Steps == b.Steps
}

func sameBindings(a, b []api.Binding) bool {
	return slices.EqualFunc(a, b, func(x, y api.Binding) bool { return x.Var == y.Var && term.Equal(x.Value, y.Value) })
}

// under puts values in.
func under(e []api.Term, l []api.Binding) []api.Term {
	var out []api.Term
	for _, t := range e {
		i := slices.IndexFunc(l, func(b api.Binding) bool { return b.Var == term.Name(t) })
		if i >= 0 {
			out = append(out, l[i].Value...)
			continue
		}
		t.Kids = under(t.Kids, l)
		out = append(out, t)
	}
	return out
}

// tally counts how often there was what.
type tally map[string]int

// need fails, if something was not there so often.
func (n tally) need(t *testing.T, least int, names ...string) {
	t.Helper()
	for _, name := range names {
		if n[name] < least {
			t.Errorf("there was %s %d times only, of %v", name, n[name], n)
		}
	}
}

// outcome returns a name for an error.
func outcome(e api.Errno) string { return "error " + e.Error() }
