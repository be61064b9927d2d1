package check

import (
	"maps"
	"slices"

	"chiasmus/api"
	"chiasmus/term"
)

// checker is at a sentence; its methods panic with a stop at the first error.
type checker struct {
	at     Fault
	around []map[string]bool // what is bound around the sentences of each depth
	bound  map[string]bool   // what is bound in this sentence; it grows from pattern to pattern
}

// stop is an error with the place of its sentence.
type stop struct {
	at   Fault
	code api.Errno
}

// firstError returns the place and the error of a function's sentences where variables are bound.
// In the order of the walk a sentence is ahead of those of its block, as its own errors are.
func firstError(function int, l []api.Sentence, bound []string) (at Fault, e api.Errno) {
	defer func() {
		switch x := recover().(type) {
		case nil:
		case stop:
			at, e = x.at, x.code
		default:
			panic(x)
		}
	}()
	rules := [...]func(*checker, api.Sentence){(*checker).count, (*checker).left, (*checker).tests, (*checker).block, (*checker).result}
	c := checker{around: []map[string]bool{setOf(bound)}}
	for at, s := range places(function, l) {
		c.enter(at)
		for _, rule := range rules {
			rule(&c, s)
		}
	}
	return Fault{}, api.OK
}

// enter begins a sentence, where that is bound which the sentences around it bind, but nothing of those beside it.
func (c *checker) enter(at Fault) {
	depth := len(at.Path)
	c.at = at
	c.around = c.around[:depth]
	c.bound = maps.Clone(c.around[depth-1])
	c.around = append(c.around, c.bound)
}

func (c *checker) fail(e api.Errno) {
	panic(stop{Fault{c.at.Function, slices.Clone(c.at.Path)}, e})
}

// need fails with an error, if it is one.
func (c *checker) need(e api.Errno) {
	if e != api.OK {
		c.fail(e)
	}
}

func (c *checker) count(s api.Sentence) {
	if len(s.Tests) > api.MaxTests {
		c.fail(api.ErrCount)
	}
}

func (c *checker) left(s api.Sentence) { c.bind(s.Left) }

func (c *checker) tests(s api.Sentence) {
	for _, t := range s.Tests {
		c.use(t.Expr)
		c.bind(t.Pattern)
	}
}

// block checks a sentence with a block, but for the sentences of this, which come next.
func (c *checker) block(s api.Sentence) {
	if len(s.Block) == 0 {
		return
	}
	if len(s.Right) > 0 {
		c.fail(ErrBlock)
	}
	c.use(s.Subject)
	if len(s.Block) > api.MaxSentences {
		c.fail(api.ErrCount)
	}
	if len(c.at.Path) > api.MaxBlocks {
		c.fail(api.ErrDepth)
	}
}

// result checks a sentence without a block.
func (c *checker) result(s api.Sentence) {
	if len(s.Block) > 0 {
		return
	}
	if len(s.Subject) > 0 {
		c.fail(ErrBlock)
	}
	c.use(s.Right)
}

// bind checks a pattern, and binds its variables.
func (c *checker) bind(l []api.Term) {
	if term.Calls(l) {
		c.fail(ErrCalls)
	}
	c.need(term.Pattern(l))
	for _, name := range term.Variables(l) {
		c.bound[name] = true
	}
}

// use checks a result, whose variables must be bound.
func (c *checker) use(l []api.Term) {
	c.need(term.Result(l))
	for _, name := range term.Variables(l) {
		if !c.bound[name] {
			c.fail(ErrUnbound)
		}
	}
}
