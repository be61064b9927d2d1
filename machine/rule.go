package machine

import (
	"slices"

	"chiasmus/api"
	"chiasmus/code"
	"chiasmus/match"
	"chiasmus/project"
	"chiasmus/store"
	"chiasmus/term"
)

// maxCost is up to which cost a plan is followed.
const maxCost = 100000

// rule is a rule of a unit.
type rule struct {
	code.Rule
	pattern []api.Term
	used    map[string]bool // the variables that the instructions use
}

func newRule(r code.Rule, s api.Sentence) rule {
	used := map[string]bool{}
	for _, name := range term.Variables(s.Right) {
		used[name] = true
	}
	return rule{r, s.Left, used}
}

// takes returns the first match of the rule with an argument that has so many terms, if there is one. A plan may look at the same
// terms again and again, where a match remembers that nothing is found.
func (r rule) takes(arg []api.Term, nodes int) ([]api.Binding, bool) {
	if project.Opens(r.Plan) > 1 {
		if cost, _ := project.Cost(r.Plan, nodes); cost > maxCost {
			found, errno := match.First(r.pattern, arg, nil)
			return found, errno == api.OK
		}
	}
	found, _, errno := project.Run(r.Plan, arg, nil)
	return found, errno == api.OK
}

// span is where the value of a variable stands in an argument: terms of the list at a path.
type span struct {
	extent
	name     string
	path     []int
	from, to int
}

// spans returns those of the variables that are used, where they occur first, from the left to the right.
func (r rule) spans(found []api.Binding) []span {
	values := map[string][]api.Term{}
	for _, b := range found {
		values[b.Var] = b.Value
	}
	var l []span
	met := map[string]bool{}
	var walk func(list []api.Term, path []int)
	walk = func(list []api.Term, path []int) {
		at := 0
		for _, t := range list {
			if !term.IsVariable(t) {
				walk(t.Kids, append(slices.Clone(path), at))
				at++
				continue
			}
			name := term.Name(t)
			value := values[name]
			if r.used[name] && !met[name] {
				l = append(l, span{extentOf(value), name, path, at, at + len(value)})
			}
			met[name] = true
			at += len(value)
		}
	}
	walk(r.pattern, nil)
	return l
}

// extent is the size of an expression.
type extent struct{ nodes, depth, cells int }

func extentOf(l []api.Term) extent {
	nodes, depth := term.Size(l)
	return extent{nodes, depth, store.Cells(l)}
}

// add counts a part of an expression that has so many brackets around it.
func (x *extent) add(level int, part extent) {
	x.nodes += part.nodes
	x.depth = max(x.depth, level+part.depth)
	x.cells += part.cells
}
