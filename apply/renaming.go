package apply

import (
	"chiasmus/api"
	"chiasmus/term"
)

// Renaming returns the renaming of variables that makes the first expression the second one.
func Renaming(a, b []api.Term) ([]api.Binding, bool) {
	if term.Result(a) != api.OK || term.Result(b) != api.OK {
		return nil, false
	}
	p := pairs{there: map[string]string{}, back: map[string]string{}}
	if !p.lists(a, b) {
		return nil, false
	}
	var l []api.Binding
	for _, name := range term.Variables(a) {
		v, _ := term.Variable(p.there[name])
		l = append(l, api.Binding{Var: name, Value: []api.Term{v}})
	}
	return l, true
}

// pairs are the names of variables that stand for each other.
type pairs struct{ there, back map[string]string }

// lists reports whether two expressions differ in the names of variables alone, and pairs these.
func (p pairs) lists(a, b []api.Term) bool {
	if len(a) != len(b) {
		return false
	}
	for i, t := range a {
		if !p.terms(t, b[i]) {
			return false
		}
	}
	return true
}

func (p pairs) terms(t, u api.Term) bool {
	if t.Kind != u.Kind {
		return false
	}
	if term.IsVariable(t) {
		return p.names(term.Name(t), term.Name(u))
	}
	return t.Text == u.Text && p.lists(t.Kids, u.Kids)
}

// names pairs two names, if neither of them stands for another one.
func (p pairs) names(name, other string) bool {
	there, used := p.there[name]
	back, taken := p.back[other]
	if used || taken {
		return used && taken && there == other && back == name
	}
	p.there[name], p.back[other] = other, name
	return true
}
