package code

import (
	"slices"

	"chiasmus/api"
	"chiasmus/project"
	"chiasmus/stop"
	"chiasmus/term"
)

// checkUnit stops with the error of a unit.
func checkUnit(u Unit) {
	checkCounts(u)
	ahead := map[string]bool{}
	for _, r := range u.Routines {
		stop.Unless(isName(r.Name) && !ahead[r.Name], ErrUnit)
		ahead[r.Name] = true
		for _, rule := range r.Rules {
			rule.check()
		}
	}
}

func checkCounts(u Unit) {
	stop.Unless(len(u.Routines) <= api.MaxFunctions, api.ErrCount)
	for _, r := range u.Routines {
		stop.Unless(len(r.Rules) <= api.MaxSentences, api.ErrCount)
		for _, rule := range r.Rules {
			stop.Unless(len(rule.Build) <= maxIns, api.ErrCount)
		}
	}
}

// isName reports whether a text is the name of a function.
func isName(s string) bool {
	return term.Result([]api.Term{{Kind: api.Call, Text: s}}) == api.OK
}

// isVariable reports whether a text is a variable.
func isVariable(s string) bool {
	_, ok := term.Variable(s)
	return ok
}

// check stops with the error of a rule, whose instructions are not too many.
func (r Rule) check() {
	stop.Need(project.Check(r.Plan))
	pattern, e := project.Pattern(r.Plan)
	stop.Unless(e == api.OK, ErrUnit) // there is no plan of a pattern that is not right
	plan, e := project.Compile(pattern, nil)
	stop.Unless(e == api.OK && samePlans(r.Plan, plan), ErrUnit)
	uses := map[string]int{} // the kinds of the last uses of the pattern's variables
	for _, name := range term.Variables(pattern) {
		uses[name] = 0
	}
	checkBuild(r.Build, func(string) {})
	for _, i := range r.Build {
		if !isUse(i) {
			continue
		}
		last, ok := uses[i.Text]
		stop.Unless(ok && last != Move, ErrUnit)
		uses[i.Text] = i.Kind
	}
	for _, last := range uses {
		stop.Unless(last != Copy, ErrUnit)
	}
}

// samePlans reports whether two right plans are equal.
func samePlans(a, b project.Plan) bool {
	return slices.Equal(a.Given, b.Given) && slices.EqualFunc(a.Ops, b.Ops, func(x, y project.Op) bool {
		return x.Kind == y.Kind && x.Hole == y.Hole && x.Right == y.Right && x.Var == y.Var && same(x.Symbol, y.Symbol)
	})
}

// same reports whether two terms are equal.
func same(t, u api.Term) bool { return term.Equal([]api.Term{t}, []api.Term{u}) }

// isUse reports whether an instruction has the value of a variable.
func isUse(i Ins) bool { return i.Kind == Move || i.Kind == Copy }

// checkBuild stops at the first instruction that is not right, wherever variables are used, and where brackets stay open.
// It calls a function for the variable of each right one.
func checkBuild(l []Ins, use func(name string)) {
	var open []int // the kinds of the instructions with which the brackets begin that are open
	for _, i := range l {
		stop.Unless(isShaped(i), ErrUnit)
		switch i.Kind {
		case Begin, Call:
			open = append(open, i.Kind)
		case End, Stop:
			last := len(open) - 1
			stop.Unless(last >= 0 && open[last] == i.Kind-1, ErrUnit)
			open = open[:last]
		case Move, Copy:
			use(i.Text)
		}
	}
	stop.Unless(len(open) == 0, ErrUnit)
}

// isShaped reports whether an instruction has a kind, and fields as this kind has them.
func isShaped(i Ins) bool {
	if i.Kind == Put {
		return i.Text == "" && term.IsSymbol(i.Symbol) && term.Value([]api.Term{i.Symbol}) == api.OK
	}
	if !same(i.Symbol, api.Term{}) {
		return false
	}
	switch i.Kind {
	case Begin, End, Stop:
		return i.Text == ""
	case Call:
		return isName(i.Text)
	case Move, Copy:
		return isVariable(i.Text)
	}
	return false
}
