package view_test

import (
	"math/rand"
	"slices"
	"testing"

	"chiasmus/api"
	"chiasmus/term"
	"chiasmus/view"
)

// active finds the active call in its own way: it looks at all calls, with their paths, in the order of the text.
func active(l []api.Term, around []int) []int {
	for i, t := range l {
		path := append(slices.Clone(around), i)
		if t.Kind == api.Call && !term.Calls(t.Kids) {
			return path
		}
		if inside := active(t.Kids, path); inside != nil {
			return inside
		}
	}
	return nil
}

// generator makes expressions; its numbers are the same in each run.
type generator struct{ *rand.Rand }

func (g generator) expression(most, depth int) []api.Term {
	var l []api.Term
	for range g.Intn(most + 1) {
		switch k := g.Intn(6); {
		case k < 2 && depth > 0:
			l = append(l, api.Term{Kind: api.Group, Kids: g.expression(most, depth-1)})
		case k < 4 && depth > 0:
			l = append(l, api.Term{Kind: api.Call, Text: "F", Kids: g.expression(most, depth-1)})
		default:
			l = append(l, term.Chars("abc"[g.Intn(3):][:1])...)
		}
	}
	return l
}

func TestAgainstPaths(t *testing.T) {
	g := generator{rand.New(rand.NewSource(1))}
	steps := 0
	for range 3000 {
		l := g.expression(4, 4)
		before := term.Copy(l)
		now := term.Copy(l)
		f := view.Open(l)
		for range 30 {
			path := active(now, nil)
			want, _ := term.At(now, path)
			call, ok := f.Active()
			if ok != (path != nil) || !term.Equal([]api.Term{call}, []api.Term{want}) || !term.Equal(f.Terms(), now) {
				t.Fatalf("the active call of %v is %v, %v, and the field is %v", now, call, ok, f.Terms())
			}
			if !ok {
				break
			}
			steps++
			by := g.expression(3, 2)
			if !f.Fits(by) {
				t.Fatalf("%v does not fit in %v", by, now)
			}
			kept := f.Terms()
			f.Replace(by)
			if !term.Equal(kept, now) {
				t.Fatal("a field that was told has changed")
			}
			now, _ = term.Put(now, path, by)
		}
		if !term.Equal(l, before) {
			t.Fatal("the expression has changed")
		}
	}
	if steps < 5000 {
		t.Errorf("only %d steps were made", steps)
	}
}

func chars(n int) []api.Term { return slices.Repeat(term.Chars("a"), n) }

func call(l ...api.Term) []api.Term { return []api.Term{{Kind: api.Call, Text: "F", Kids: l}} }

// nested returns groups within each other, and an expression in the innermost one.
func nested(depth int, l []api.Term) []api.Term {
	for range depth {
		l = []api.Term{{Kind: api.Group, Kids: l}}
	}
	return l
}

func TestFits(t *testing.T) {
	for _, c := range []struct {
		field, by []api.Term
		want      bool
	}{
		{slices.Concat(chars(15000), call()), chars(5000), true},
		{slices.Concat(chars(15000), call()), chars(5001), false},
		{slices.Concat(chars(15000), call(chars(3000)...), chars(1000)), chars(4000), true},
		{slices.Concat(chars(15000), call(chars(3000)...), chars(1000)), chars(4001), false},
		{call(call(chars(10)...)...), chars(19999), true},
		{call(call(chars(10)...)...), chars(20000), false},
		{nested(99, call()), nested(1, chars(1)), true},
		{nested(99, call()), nested(2, nil), false},
		{nested(99, call()), nil, true},
		{call(), nested(100, nil), true},
		{call(), nested(101, nil), false},
		{call(nested(50, call())...), nested(49, nil), true},
		{call(nested(50, call())...), nested(50, nil), false},
	} {
		f := view.Open(c.field)
		if got := f.Fits(c.by); got != c.want {
			n, d := term.Size(c.by)
			t.Errorf("%d terms, %d deep: Fits = %v", n, d, got)
		}
	}
}

// TestLong has runs that would take a lifetime, or all memory, if a step cost as much as the field.
func TestLong(t *testing.T) {
	f := view.Open(call())
	for range 1000000 {
		f.Replace(call())
	}
	if !term.Equal(f.Terms(), call()) {
		t.Errorf("the field is %v", f.Terms())
	}
	f = view.Open(slices.Repeat(call(), 20000))
	for range 20000 {
		f.Replace(chars(1))
	}
	if !term.Equal(f.Terms(), chars(20000)) {
		t.Error("the field is another one")
	}
}
