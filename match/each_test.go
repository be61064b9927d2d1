package match_test

import (
	"strconv"
	"testing"

	"chiasmus/api"
	"chiasmus/match"
	"chiasmus/term"
)

// TestEach asks for all matches one by one, and twice.
func TestEach(t *testing.T) {
	g := newGenerator(4)
	for range 1000 {
		value := g.value(8, 2)
		pattern := g.pattern(value)
		want, _ := match.All(pattern, value, nil, 1000)
		each, e := match.Each(pattern, value, nil)
		if e != api.OK {
			t.Fatalf("Each = %v", e)
		}
		for range 2 {
			var got [][]api.Binding
			for m := range each {
				if got = append(got, m); len(got) == 1000 {
					break
				}
			}
			if len(got) != len(want) || textsOf(got) != textsOf(want) {
				t.Fatalf("Each yields %s, but All has %s", textsOf(got), textsOf(want))
			}
		}
	}
}

// TestEachLong has more matches than All returns.
func TestEachLong(t *testing.T) {
	pattern, value := parsed(t, "e.1 s.2 e.3 e.4"), term.Chars(long("a", 100))
	each, e := match.Each(pattern, value, nil)
	if e != api.OK {
		t.Fatalf("Each = %v", e)
	}
	n := 0
	for m := range each {
		if n++; n == 3000 {
			break
		}
		if !term.Equal(under(pattern, m), value) {
			t.Fatalf("match %d is %s", n, textOf(m))
		}
	}
	if n != 3000 {
		t.Errorf("there are %d matches", n)
	}
}

func TestEachErrors(t *testing.T) {
	var many []api.Binding
	for i := range api.MaxNodes + 1 {
		many = append(many, api.Binding{Var: "e." + strconv.Itoa(i)})
	}
	call := []api.Term{{Kind: api.Call, Text: "F"}}
	for _, c := range []struct {
		pattern, value []api.Term
		given          []api.Binding
		want           api.Errno
	}{
		{call, call, many, api.ErrForm},
		{term.Chars(long("a", 4001)), call, many, api.ErrCount},
		{nil, call, many, api.ErrForm},
		{nil, nested(101), many, api.ErrDepth},
		{nil, nil, many, api.ErrCount},
		{nil, nil, bindings(t, "e.1", "a", "e.1", "a"), api.ErrDuplicate},
	} {
		if each, e := match.Each(c.pattern, c.value, c.given); e != c.want || each != nil {
			t.Errorf("Each = %v, want %v", e, c.want)
		}
	}
}
