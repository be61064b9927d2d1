package universal

import (
	"iter"

	"chiasmus/api"
	"chiasmus/check"
	"chiasmus/meta"
	"chiasmus/term"
)

// call is a call of a function of a program.
type call struct {
	program api.Program
	name    string
	arg     []api.Term
}

// error returns that of a call.
func (c call) error() api.Errno {
	rules := [...]func(call) api.Errno{call.form, call.core, call.pure, call.strict, call.function, call.value}
	for _, rule := range rules {
		if e := rule(c); e != api.OK {
			return e
		}
	}
	return api.OK
}

// unless returns an error, if something does not hold.
func unless(holds bool, e api.Errno) api.Errno {
	if holds {
		return api.OK
	}
	return e
}

func (c call) form() api.Errno {
	_, e := check.Program(c.program)
	return e
}

func (c call) core() api.Errno { return unless(check.Core(c.program), api.ErrCore) }

func (c call) pure() api.Errno { return unless(check.Pure(c.program), api.ErrPure) }

func (c call) strict() api.Errno { return unless(check.Strict(c.program), api.ErrStrict) }

func (c call) function() api.Errno { return unless(check.Find(c.program, c.name) >= 0, api.ErrMissing) }

func (c call) value() api.Errno { return term.Value(c.arg) }

// expression returns a call as an expression of its own.
func (c call) expression() []api.Term {
	return []api.Term{{Kind: api.Call, Text: c.name, Kids: term.Copy(c.arg)}}
}

// above returns the call of the universal program that performs a call.
func (c call) above() (call, api.Errno) {
	if e := c.error(); e != api.OK {
		return call{}, e
	}
	program, e := meta.Program(c.program)
	if e != api.OK {
		return call{}, e
	}
	arg := []api.Term{{Kind: api.Group, Kids: program}, {Kind: api.Word, Text: c.name}}
	up := call{Program(), "Run", append(arg, c.arg...)}
	nodes, depth := term.Size(up.expression())
	if nodes > api.MaxNodes {
		return call{}, api.ErrLarge
	}
	if depth > api.MaxDepth {
		return call{}, api.ErrDepth
	}
	return up, api.OK
}

// levels yields a call and the calls above it, level by level; with an error there is no call, and none above.
func (c call) levels(above int) iter.Seq2[call, api.Errno] {
	return func(yield func(call, api.Errno) bool) {
		e := c.error()
		if e != api.OK {
			yield(call{}, e)
			return
		}
		for level := 0; yield(c, api.OK) && level < above; level++ {
			if c, e = c.above(); e != api.OK {
				yield(call{}, e)
				return
			}
		}
	}
}
