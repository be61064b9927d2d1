package machine

import (
	"slices"

	"chiasmus/api"
	"chiasmus/builtin"
	"chiasmus/code"
	"chiasmus/term"
	"chiasmus/view"
)

// load puts the routines of a right program, and a view field into the machine.
func (m *Machine) load(p api.Program, e []api.Term) {
	u, errno := code.Compile(p) // its memory is that of nobody else
	need("compile", errno)
	m.routines = map[string][]rule{}
	for i, r := range u.Routines {
		for k, c := range r.Rules {
			m.routines[r.Name] = append(m.routines[r.Name], newRule(c, p.Functions[i].Sentences[k]))
		}
	}
	m.heap = newHeap()
	x := extentOf(e)
	m.nodes, m.cells, m.most = x.nodes, x.cells, x.cells
	b := newBuilder(m.heap, nil)
	b.terms(e)
	m.active = &bracket{}
	m.active.insert(b.built())
	m.advance()
}

// result is what replaces the active call: what instructions build of parts of its argument, or terms.
type result struct {
	build []code.Ins
	spans []span
	terms []api.Term
	kept  api.Store
}

// What the name of a call may be that of.
const (
	own = iota
	builtIn
	none
)

func (m *Machine) kind(name string) int {
	if _, ok := m.routines[name]; ok {
		return own
	}
	if builtin.Is(name) {
		return builtIn
	}
	return none
}

// step replaces the active call. If it stops, the state has not changed.
func (m *Machine) step() {
	unless(m.active.kind == api.Call, api.ErrClosed)
	arg := m.argument()
	l := m.heap.get(arg)
	nodes, _ := term.Size(l)
	unless(nodes <= api.MaxNodes, api.ErrLarge)
	kinds := [...]func(*Machine, []api.Term, int) result{own: (*Machine).own, builtIn: (*Machine).builtIn, none: (*Machine).none}
	r := kinds[m.kind(m.active.text)](m, l, nodes)
	x := m.with(r, extent{nodes: nodes + 1, cells: arg.cells + 2})
	m.replace(arg, r)
	m.nodes, m.cells, m.most = x.nodes, x.cells, max(m.most, x.cells)
	m.kept = r.kept
	m.steps++
	select {
	case m.waiting <- m.steps:
	default:
	}
}

// argument makes the argument of the active call one piece.
func (m *Machine) argument() piece {
	arg := m.heap.joined(m.active.done)
	m.active.done = nil
	if !arg.isEmpty() {
		m.active.done = []piece{arg}
	}
	return arg
}

func (m *Machine) own(arg []api.Term, nodes int) result {
	for _, r := range m.routines[m.active.text] {
		if found, ok := r.takes(arg, nodes); ok {
			return result{build: r.Build, spans: r.spans(found), kept: m.kept}
		}
	}
	need("choose", api.ErrRecognition)
	return result{}
}

func (m *Machine) builtIn(arg []api.Term, _ int) result {
	l, kept, errno := builtin.Apply(m.active.text, arg, m.kept)
	need("apply", errno)
	return result{terms: l, kept: kept}
}

func (m *Machine) none([]api.Term, int) result {
	need("choose", api.ErrUndefined)
	return result{}
}

// with returns the size of the view field with a result in the place of the active call, which has another one.
// The limits are asked when all of it was counted.
func (m *Machine) with(r result, call extent) (x extent) {
	defer func() {
		unless(x.nodes <= api.MaxField && x.depth <= api.MaxDepth, api.ErrLarge)
		unless(m.steps < view.MaxSteps, api.ErrRange)
		unless(x.cells <= m.limit, api.ErrLarge)
	}()
	x = extent{nodes: m.nodes - call.nodes, cells: m.cells - call.cells}
	level := m.active.level - 1
	x.add(level, extentOf(r.terms))
	values := map[string]extent{}
	for _, s := range r.spans {
		values[s.name] = s.extent
	}
	for _, i := range r.build {
		switch i.Kind {
		case code.Put:
			x.add(level, extent{nodes: 1, cells: 1})
		case code.Begin, code.Call:
			x.add(level, extent{nodes: 1, depth: 1, cells: 2})
			level++
		case code.End, code.Stop:
			level--
		default:
			x.add(level, values[i.Text])
		}
	}
	return x
}

// replace puts a result that fits in the place of the active call.
func (m *Machine) replace(arg piece, r result) {
	values := map[string]piece{}
	for _, s := range slices.Backward(r.spans) { // from the right, so that the other spans stay where they are
		values[s.name] = m.heap.cut(arg, s)
	}
	b := newBuilder(m.heap, values)
	b.instructions(r.build)
	b.terms(r.terms)
	m.heap.drop(arg)
	m.active = m.active.around
	m.active.insert(b.built())
	m.advance()
}
