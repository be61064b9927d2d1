package builtin

import (
	"strings"

	"chiasmus/api"
	"chiasmus/arith"
	"chiasmus/term"
)

// two returns the texts of the argument's two Numbers.
func (c *call) two() (a, b string) {
	must(len(c.arg) == 2 && c.arg[0].Kind == api.Number && c.arg[1].Kind == api.Number)
	return c.arg[0].Text, c.arg[1].Text
}

func (c *call) add() []api.Term { return c.computed(arith.Add) }

func (c *call) sub() []api.Term { return c.computed(arith.Sub) }

func (c *call) mul() []api.Term { return c.computed(arith.Mul) }

func (c *call) computed(of func(a, b string) (string, api.Errno)) []api.Term {
	s, e := of(c.two())
	need(e)
	return number(s)
}

// divided returns the quotient and the remainder of the argument's two Numbers.
func (c *call) divided() (q, r string) {
	q, r, e := arith.Divmod(c.two())
	must(e == api.OK)
	return q, r
}

func (c *call) div() []api.Term {
	q, _ := c.divided()
	return number(q)
}

func (c *call) mod() []api.Term {
	_, r := c.divided()
	return number(r)
}

func (c *call) divmod() []api.Term {
	q, r := c.divided()
	return joined(group(number(q)), number(r))
}

func (c *call) compare() []api.Term {
	n, e := arith.Compare(c.two())
	need(e)
	return char([...]string{"-", "0", "+"}[n+1])
}

func (c *call) numb() []api.Term {
	s, ok := term.String(c.arg)
	must(ok)
	digits, minus := strings.CutPrefix(s, "-")
	must(digits != "" && strings.Trim(digits, "0123456789") == "")
	digits = strings.TrimLeft(digits, "0")
	switch {
	case digits == "":
		return number("0")
	case len(digits) > api.MaxDigits:
		need(api.ErrLarge)
	case minus:
		return number("-" + digits)
	}
	return number(digits)
}

func (c *call) symb() []api.Term { return term.Chars(c.one(api.Number).Text) }

// count returns the Number from 0 on at the argument's head, or the number of the terms behind it, if this is less; and these.
func (c *call) count() (int, []api.Term) {
	t, l := c.head(api.Number)
	must(!strings.HasPrefix(t.Text, "-"))
	n, e := arith.Int(t.Text)
	if e != api.OK { // more than there are terms
		return len(l), l
	}
	return min(n, len(l)), l
}

func (c *call) first() []api.Term {
	n, l := c.count()
	return joined(group(l[:n]), l[n:])
}

func (c *call) last() []api.Term {
	n, l := c.count()
	n = len(l) - n
	return joined(group(l[:n]), l[n:])
}
