package code

import (
	"chiasmus/api"
	"chiasmus/project"
	"chiasmus/stop"
	"chiasmus/term"
)

// sentence returns the sentence of a right rule.
func (r Rule) sentence() api.Sentence {
	left, _ := project.Pattern(r.Plan)
	right := built(r.Build, func(name string) []api.Term {
		t, _ := term.Variable(name)
		return []api.Term{t}
	})
	return api.Sentence{Left: left, Right: right}
}

// built returns what right instructions build with the values of variables, whose memory is handed over.
func built(l []Ins, value func(name string) []api.Term) []api.Term {
	open := make([]api.Term, 1) // the brackets that are open; the first one stands for the result itself
	for _, i := range l {
		last := len(open) - 1
		top := &open[last]
		switch i.Kind {
		case Put:
			top.Kids = append(top.Kids, api.Term{Kind: i.Symbol.Kind, Text: i.Symbol.Text})
		case Begin:
			open = append(open, api.Term{Kind: api.Group})
		case Call:
			open = append(open, api.Term{Kind: api.Call, Text: i.Text})
		case End, Stop:
			around := &open[last-1]
			around.Kids = append(around.Kids, *top)
			open = open[:last]
		default:
			top.Kids = append(top.Kids, value(i.Text)...)
		}
	}
	return open[0].Kids
}

// extent is the size of an expression.
type extent struct{ nodes, depth int }

// checkSize stops, if what right instructions build with the values of variables is too large.
func checkSize(l []Ins, values map[string][]api.Term) {
	extents := map[string]extent{}
	nodes, level := 0, 0
	for _, i := range l {
		x := extent{nodes: 1}
		switch i.Kind {
		case Begin, Call:
			x.depth = 1
		case End, Stop:
			x.nodes = 0
			level--
		case Move, Copy:
			x = extentOf(i.Text, values, extents)
		}
		nodes += x.nodes
		stop.Unless(nodes <= api.MaxField && level+x.depth <= api.MaxDepth, api.ErrLarge)
		if i.Kind == Begin || i.Kind == Call {
			level++
		}
	}
}

// extentOf returns that of a variable's value, which is measured once.
func extentOf(name string, values map[string][]api.Term, extents map[string]extent) extent {
	x, ok := extents[name]
	if !ok {
		x.nodes, x.depth = term.Size(values[name])
		extents[name] = x
	}
	return x
}
