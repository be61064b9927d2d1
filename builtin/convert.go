package builtin

import (
	"chiasmus/api"
	"chiasmus/arith"
	"chiasmus/meta"
	"chiasmus/term"
)

// mapped returns the list of what a function makes of the elements of a list.
func mapped[T any](l []T, of func(T) T) []T {
	var out []T
	for _, x := range l {
		out = append(out, of(x))
	}
	return out
}

// deep returns an expression whose symbols are changed at all depths.
func deep(l []api.Term, change func(api.Term) api.Term) []api.Term {
	return mapped(l, func(t api.Term) api.Term {
		if t.Kind == api.Group {
			t.Kids = deep(t.Kids, change)
			return t
		}
		return change(t)
	})
}

// chars returns the argument with each Char at all depths changed.
func (c *call) chars(change func(byte) api.Term) []api.Term {
	return deep(c.arg, func(t api.Term) api.Term {
		if t.Kind != api.Char {
			return t
		}
		return change(t.Text[0])
	})
}

func (c *call) ord() []api.Term {
	return c.chars(func(b byte) api.Term { return number(arith.Text(int(b)))[0] })
}

func (c *call) chr() []api.Term {
	return deep(c.arg, func(t api.Term) api.Term {
		n, e := arith.Int(t.Text)
		if t.Kind != api.Number || e != api.OK || n < 0 || n > 255 {
			return t
		}
		return byteChar(byte(n))
	})
}

func byteChar(b byte) api.Term { return api.Term{Kind: api.Char, Text: string([]byte{b})} }

func (c *call) upper() []api.Term {
	return c.chars(func(b byte) api.Term {
		if 'a' <= b && b <= 'z' {
			b -= 'a' - 'A'
		}
		return byteChar(b)
	})
}

func (c *call) lower() []api.Term {
	return c.chars(func(b byte) api.Term {
		if 'A' <= b && b <= 'Z' {
			b += 'a' - 'A'
		}
		return byteChar(b)
	})
}

func (c *call) typ() []api.Term {
	letter := "*"
	if len(c.arg) > 0 {
		letter = typeOf(c.arg[0].Kind)
	}
	return joined(char(letter), c.arg)
}

// typeOf returns the letter for a kind of a value's terms.
func typeOf(kind int) string {
	switch kind {
	case api.Char:
		return "C"
	case api.Word:
		return "W"
	case api.Number:
		return "N"
	}
	return "G"
}

func (c *call) lenw() []api.Term { return joined(number(arith.Text(len(c.arg))), c.arg) }

func (c *call) explode() []api.Term { return term.Chars(c.one(api.Word).Text) }

func (c *call) implode() []api.Term {
	s, ok := term.String(c.arg)
	word := []api.Term{{Kind: api.Word, Text: s}}
	must(ok && term.Value(word) == api.OK)
	return word
}

func (c *call) mu() []api.Term {
	name, l := c.head(api.Word)
	must(term.Result([]api.Term{{Kind: api.Call, Text: name.Text}}) == api.OK)
	return []api.Term{{Kind: api.Call, Text: name.Text, Kids: l}}
}

func (c *call) up() []api.Term { return converted(meta.Up(c.arg)) }

func (c *call) dn() []api.Term {
	l := converted(meta.Dn(c.arg))
	must(len(term.Variables(l)) == 0)
	return l
}

// converted returns a result of metafunctions, of whose errors api.ErrLarge alone is told apart.
func converted(l []api.Term, e api.Errno) []api.Term {
	if e == api.ErrLarge {
		need(e)
	}
	must(e == api.OK)
	return l
}
