package builtin

import (
	"chiasmus/api"
	"chiasmus/term"
)

// call is a call of a built-in function, whose lists of the store are its own. The functions are its methods:
// they return a result, which may share memory with the argument, and stop at an error.
type call struct {
	arg   []api.Term
	store api.Store
}

// stop is a panic with an error.
type stop struct{ code api.Errno }

// need stops with an error, if it is one.
func need(e api.Errno) {
	if e != api.OK {
		panic(stop{e})
	}
}

// must stops, if the argument is not one that the function takes.
func must(ok bool) {
	if !ok {
		panic(stop{api.ErrBuiltin})
	}
}

// run returns the result of a function in memory of its own.
func (c *call) run(function func(*call) []api.Term) (result []api.Term, e api.Errno) {
	defer func() {
		switch x := recover().(type) {
		case nil:
		case stop:
			result, e = nil, x.code
		default:
			panic(x)
		}
	}()
	l := function(c)
	if nodes, depth := term.Size(l); nodes > api.MaxNodes || depth > api.MaxDepth {
		need(api.ErrLarge)
	}
	return term.Copy(l), api.OK
}

// one returns the argument's only term, which must have a kind.
func (c *call) one(kind int) api.Term {
	must(len(c.arg) == 1 && c.arg[0].Kind == kind)
	return c.arg[0]
}

// head returns the argument's first term, which must have a kind, and the others.
func (c *call) head(kind int) (api.Term, []api.Term) {
	must(len(c.arg) > 0 && c.arg[0].Kind == kind)
	return c.arg[0], c.arg[1:]
}

// joined returns the terms of some lists, one behind the other.
func joined(lists ...[]api.Term) []api.Term {
	var out []api.Term
	for _, l := range lists {
		out = append(out, l...)
	}
	return out
}

func char(text string) []api.Term { return []api.Term{{Kind: api.Char, Text: text}} }

func number(text string) []api.Term { return []api.Term{{Kind: api.Number, Text: text}} }

func group(l []api.Term) []api.Term { return []api.Term{{Kind: api.Group, Kids: l}} }
