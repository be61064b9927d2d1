package bychance

import (
	"slices"
	"testing"

	"chiasmus/api"
	"chiasmus/field"
	"chiasmus/match"
	"chiasmus/term"
	"chiasmus/trace"
)

func sameEvents(a, b []trace.Event) bool {
	return slices.EqualFunc(a, b, func(x, y trace.Event) bool {
		return x.Function == y.Function && term.Equal(x.Argument, y.Argument) && x.Sentence == y.Sentence &&
			sameBindings(x.Bindings, y.Bindings) && term.Equal(x.Result, y.Result)
	})
}

// newRecorder returns a recorder of a run by chance.
func newRecorder(t *testing.T, g *generator) (*trace.Recorder, api.Program, []api.Term, string) {
	t.Helper()
	p, src := g.program(t)
	e := g.expression(t)
	r, code := trace.New(p, e)
	if code != api.OK {
		t.Fatalf("%s: New = %v", src, code)
	}
	return r, p, e, src
}

// TestRecorded has P14.3: runs, and their events.
func TestRecorded(t *testing.T) {
	g := newGenerator(41)
	g.meta = true
	n := tally{}
	for range 1500 {
		r, p, e, src := newRecorder(t, g)
		fuel := g.Intn(60)
		want, code := field.Run(p, start(t, p, e), fuel)
		n[outcome(code)]++
		made, stopped := r.Forth(fuel)
		if stopped == api.OK && term.Calls(r.State().Field) {
			stopped = api.ErrFuel
		}
		if stopped != code || !sameStates(r.State(), want) || made != want.Steps {
			t.Fatalf("%s: recorded, the run of %s is %v behind %d steps, %v, not %v, %v", src, text(e), r.State(), made, stopped, want, code)
		}
		events, code2 := trace.Steps(p, e, fuel)
		if code2 != code || !sameEvents(events, r.Events()) || len(events) != made {
			t.Fatalf("%s: Steps of %s = %v, %v", src, text(e), events, code2)
		}
		checkEvents(t, p, e, events)
	}
	n.need(t, 20, "error 0", "error 8", "error 20", "error 21", "error 22")
}

// checkEvents replaces active calls by the results of events.
func checkEvents(t *testing.T, p api.Program, e []api.Term, events []trace.Event) {
	t.Helper()
	s := start(t, p, e)
	for _, x := range events {
		path, _ := field.Active(s.Field)
		call, _ := term.At(s.Field, path)
		number, l, code := field.Sentence(p, s)
		if code != api.OK || x.Function != call.Text || !term.Equal(x.Argument, call.Kids) || x.Sentence != number || !sameBindings(x.Bindings, l) {
			t.Fatalf("the event of %s is %v", text(s.Field), x)
		}
		want, _ := term.Put(s.Field, path, x.Result)
		s, code = field.Step(p, s)
		if code != api.OK || !term.Equal(s.Field, want) {
			t.Fatalf("the event with the next field %s is %v", text(s.Field), x)
		}
	}
}

// TestBack has P14.2.
func TestBack(t *testing.T) {
	g := newGenerator(42)
	undone := 0
	for range 1000 {
		r, _, e, src := newRecorder(t, g)
		r.Forth(g.Intn(20))
		before, events := r.State(), r.Events()
		n, code := r.Forth(g.Intn(20))
		after, all := r.State(), r.Events()
		if back := r.Back(n); back != n || !sameStates(r.State(), before) || !sameEvents(r.Events(), events) {
			t.Fatalf("%s: %s: %d of %d steps back is %v, not %v", src, text(e), back, n, r.State(), before)
		}
		again, _ := r.Forth(n)
		if again != n || !sameStates(r.State(), after) || !sameEvents(r.Events(), all) {
			t.Fatalf("%s: %s: again it is %v, not %v", src, text(e), r.State(), after)
		}
		if k, code2 := r.Forth(1); code != api.OK && (k != 0 || code2 != code) {
			t.Fatalf("%s: %s: then %d, %v, not %v", src, text(e), k, code2, code)
		}
		undone += n
	}
	if undone < 300 {
		t.Errorf("only %d steps were undone", undone)
	}
}

// TestStops has P14.4.
func TestStops(t *testing.T) {
	g := newGenerator(43)
	n := tally{}
	for range 3000 {
		r, p, e, src := newRecorder(t, g)
		var stops []trace.Stop
		for range g.Intn(3) {
			pattern, _ := g.pattern(nil, 1)
			stops = append(stops, trace.Stop{Function: g.one("F", "G", "H", "Lenw", "X", ""), Pattern: parsed(t, pattern)})
		}
		begin := g.Intn(3)
		begin, _ = r.Forth(begin)
		fuel := g.Intn(30)
		i, code := r.To(stops, fuel)
		s := start(t, p, e)
		for k := range r.State().Steps {
			if k >= begin && holding(s.Field, stops) >= 0 {
				t.Fatalf("%s: a stop of %v holds for %s", src, stops, text(s.Field))
			}
			s, _ = field.Step(p, s)
		}
		if !sameStates(r.State(), s) {
			t.Fatalf("%s: %s: To is at %v, not %v", src, text(e), r.State(), s)
		}
		calls := term.Calls(s.Field)
		ok := false
		switch code {
		case api.OK:
			ok = i == holding(s.Field, stops) && calls == (i >= 0)
		case api.ErrFuel:
			ok = i == 0 && calls && s.Steps-begin == fuel && holding(s.Field, stops) < 0
		default:
			_, code2 := field.Step(p, s)
			ok = i == -1 && code2 == code && holding(s.Field, stops) < 0
		}
		if !ok {
			t.Fatalf("%s: %s: To of %v = %d, %v at %v", src, text(e), stops, i, code, s)
		}
		n[outcome(code)]++
		if i > 0 {
			n["second"]++
		}
	}
	n.need(t, 50, "error 0", "error 8", "error 20", "error 21", "error 22", "second")
}

// holding returns the index of the first stop that holds, -1 for none.
func holding(l []api.Term, stops []trace.Stop) int {
	path := active(l, nil)
	if path == nil {
		return -1
	}
	call, _ := term.At(l, path)
	return slices.IndexFunc(stops, func(s trace.Stop) bool {
		n, e := match.Count(s.Pattern, call.Kids, nil)
		return (s.Function == "" || s.Function == call.Text) && (n > 0 || e == api.ErrLarge)
	})
}

// TestTrees has P14.1 and P14.5: the tree is compared with one that follows the marks of calls.
func TestTrees(t *testing.T) {
	g := newGenerator(44)
	g.meta = true
	n := tally{}
	for range 2500 {
		p, src := g.program(t)
		e, fuel := g.expression(t), g.Intn(50)
		events, code := trace.Steps(p, e, fuel)
		nodes, code2 := trace.Tree(p, e, fuel)
		want, roots := marked(e, events)
		if code2 != code || len(nodes) != len(events) {
			t.Fatalf("%s: Tree of %s = %v, %v", src, text(e), nodes, code2)
		}
		parents := map[int]int{}
		for k, x := range nodes {
			if x.Step != k || !slices.Equal(x.Kids, want[k].Kids) || x.Ended != want[k].Ended || !term.Equal(x.Value, want[k].Value) {
				t.Fatalf("%s: node %d of %s is %v, not %v", src, k, text(e), x, want[k])
			}
			for _, kid := range x.Kids {
				if _, again := parents[kid]; again || kid <= k {
					t.Fatalf("%s: node %d of %s is a kid of %d", src, kid, text(e), k)
				}
				parents[kid] = k
			}
			if x.Ended {
				n["ended"]++
			}
			if len(x.Kids) > 1 {
				n["several kids"]++
			}
		}
		if len(parents)+roots != len(nodes) {
			t.Fatalf("%s: of %d nodes of %s %d have parents", src, len(nodes), text(e), len(parents))
		}
		n[outcome(code)]++
		checkValues(t, p, events, nodes)
	}
	n.need(t, 50, "error 0", "error 8", "error 20", "error 21", "error 22", "ended", "several kids")
}

// checkValues evaluates the calls of the nodes that ended by themselves, in runs without the store.
func checkValues(t *testing.T, p api.Program, events []trace.Event, nodes []trace.Node) {
	t.Helper()
	for _, x := range events {
		switch x.Function {
		case "Br", "Cp", "Dg", "Rp", "Prout":
			return
		}
	}
	for k, x := range nodes {
		if !x.Ended {
			continue
		}
		call := []api.Term{{Kind: api.Call, Text: events[k].Function, Kids: events[k].Argument}}
		if l, _, e := field.Value(p, call, 100); e != api.OK || !term.Equal(l, x.Value) {
			t.Fatalf("the value of %s is %s, %v, not %s", text(call), text(l), e, text(x.Value))
		}
	}
}

// markedTerm is a term of a view field: a call knows the step that brought it (-1 for none), and each term all steps that it is a part of.
type markedTerm struct {
	api.Term
	origin int
	within []int
	kids   []markedTerm
}

func mark(l []api.Term, origin int, within []int) []markedTerm {
	var out []markedTerm
	for _, t := range l {
		out = append(out, markedTerm{t, origin, within, mark(t.Kids, origin, within)})
	}
	return out
}

// marked makes the steps of some events with a field whose terms are marked, and returns the nodes, and how many have no parent.
func marked(e []api.Term, events []trace.Event) ([]trace.Node, int) {
	l := mark(e, -1, nil)
	nodes := make([]trace.Node, len(events))
	roots := 0
	for k, x := range events {
		l = replaceFirst(l, func(call markedTerm) []markedTerm {
			if call.origin < 0 {
				roots++
			} else {
				nodes[call.origin].Kids = append(nodes[call.origin].Kids, k)
			}
			return mark(x.Result, k, append(slices.Clone(call.within), k))
		})
		for n := range k + 1 {
			if !nodes[n].Ended { // later on, what it has become may be a part of an argument, and be gone
				nodes[n].Value, nodes[n].Ended = part(l, n)
			}
		}
	}
	return nodes, roots
}

// replaceFirst replaces the first call without calls in it.
func replaceFirst(l []markedTerm, by func(markedTerm) []markedTerm) []markedTerm {
	done := false
	var walk func(l []markedTerm) []markedTerm
	walk = func(l []markedTerm) []markedTerm {
		var out []markedTerm
		for _, t := range l {
			t.kids = walk(t.kids)
			if !done && t.Kind == api.Call {
				done = true
				out = append(out, by(t)...)
				continue
			}
			out = append(out, t)
		}
		return out
	}
	return walk(l)
}

// part returns what the result of a step has become; false, if there is a call in it.
func part(l []markedTerm, k int) ([]api.Term, bool) {
	out := within(l, k)
	if term.Calls(out) {
		return nil, false
	}
	return out, true
}

// within returns the terms of a field that are a part of a step.
func within(l []markedTerm, k int) []api.Term {
	var out []api.Term
	for _, t := range l {
		if slices.Contains(t.within, k) {
			out = append(out, plain(t))
		} else {
			out = append(out, within(t.kids, k)...)
		}
	}
	return out
}

func plain(t markedTerm) api.Term {
	var kids []api.Term
	for _, k := range t.kids {
		kids = append(kids, plain(k))
	}
	t.Term.Kids = kids
	return t.Term
}
