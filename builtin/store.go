package builtin

import (
	"slices"

	"chiasmus/api"
	"chiasmus/term"
)

// cut divides the argument at `=`.
func (c *call) cut() (key, value []api.Term) {
	i := slices.IndexFunc(c.arg, func(t api.Term) bool { return t.Kind == api.Char && t.Text == "=" })
	must(i >= 0)
	return c.arg[:i], c.arg[i+1:]
}

// top returns the index of the top of a key, -1 for none.
func (c *call) top(key []api.Term) int {
	return slices.IndexFunc(c.store.Buried, func(b api.Buried) bool { return term.Equal(b.Key, key) })
}

func (c *call) br() []api.Term {
	c.bury(c.cut())
	return nil
}

func (c *call) bury(key, value []api.Term) {
	if len(c.store.Buried) >= api.MaxStore {
		need(api.ErrLarge)
	}
	c.store.Buried = slices.Insert(c.store.Buried, 0, api.Buried{Key: term.Copy(key), Value: term.Copy(value)})
}

func (c *call) cp() []api.Term {
	i := c.top(c.arg)
	if i < 0 {
		return nil
	}
	return c.store.Buried[i].Value
}

func (c *call) dg() []api.Term {
	i := c.top(c.arg)
	if i < 0 {
		return nil
	}
	value := c.store.Buried[i].Value
	c.store.Buried = slices.Delete(c.store.Buried, i, i+1)
	return value
}

func (c *call) rp() []api.Term {
	key, value := c.cut()
	if i := c.top(key); i >= 0 {
		c.store.Buried[i].Value = term.Copy(value)
	} else {
		c.bury(key, value)
	}
	return nil
}

func (c *call) prout() []api.Term {
	line, e := term.Text(c.arg)
	need(e)
	if len(c.store.Output) >= api.MaxStore {
		need(api.ErrLarge)
	}
	c.store.Output = append(c.store.Output, line)
	return nil
}
