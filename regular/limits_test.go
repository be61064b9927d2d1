package regular

import (
	"strconv"
	"strings"
	"testing"

	"chiasmus/api"
)

// circle returns an automaton of so many states in a circle of characters.
func circle(states int) Automaton {
	a := line(states)
	a.Edges = append(a.Edges, Edge{From: states - 1, To: 0, Kind: Chars})
	return a
}

// unused returns an automaton of so many states that accepts nothing but the empty value.
func unused(states int) Automaton { return Automaton{States: states, Final: []int{0}} }

// parallel returns an automaton of one state with equal edges.
func parallel(edges int) Automaton {
	a := Automaton{States: 1, Final: []int{0}}
	for range edges {
		a.Edges = append(a.Edges, Edge{Kind: Chars})
	}
	return a
}

// ones returns an automaton of two states that accepts so many words.
func ones(count int) Automaton {
	a := Automaton{States: 2, Final: []int{1}}
	for _, t := range symbols(count) {
		a.Edges = append(a.Edges, Edge{To: 1, Kind: One, Symbol: t})
	}
	return a
}

// others returns an automaton like someWords, which accepts words without others.
func others(except int) Automaton {
	a := someWords(except)
	for i, t := range a.Edges[0].Except {
		a.Edges[0].Except[i] = word("x" + t.Text)
	}
	return a
}

// TestLimits has what is just not too large ahead of Trim, and what is.
func TestLimits(t *testing.T) {
	both := func(a, b Automaton) func() (Automaton, api.Errno) {
		return func() (Automaton, api.Errno) { return Both(a, b) }
	}
	concat := func(a, b Automaton) func() (Automaton, api.Errno) {
		return func() (Automaton, api.Errno) { return Concat(a, b) }
	}
	union := func(a, b Automaton) func() (Automaton, api.Errno) {
		return func() (Automaton, api.Errno) { return Union(a, b) }
	}
	of := func(op func(Automaton) (Automaton, api.Errno), a Automaton) func() (Automaton, api.Errno) {
		return func() (Automaton, api.Errno) { return op(a) }
	}
	exactly := func(s string) func() (Automaton, api.Errno) {
		return func() (Automaton, api.Errno) { return Exactly(parsed(t, s)) }
	}
	dead := func(a Automaton) Automaton { // its edges lead nowhere
		a.Final = nil
		return a
	}
	for name, c := range map[string]struct {
		make  func() (Automaton, api.Errno)
		large bool
	}{
		"399 symbols":                   {exactly(strings.Repeat("A ", 399)), false},
		"400 symbols":                   {exactly(strings.Repeat("A ", 400)), true},
		"199 brackets":                  {exactly(strings.Repeat("()", 199)), false},
		"200 brackets":                  {exactly(strings.Repeat("()", 200)), true},
		"brackets around 398 states":    {of(Wrap, line(398)), false},
		"brackets around 399 states":    {of(Wrap, line(399)), true},
		"brackets around unused states": {of(Wrap, unused(399)), true},
		"brackets around 3999 edges":    {of(Wrap, wide(3999)), false},
		"brackets around 4000 edges":    {of(Wrap, wide(4000)), true},
		"100, 100, 200 states":          {concat(line(100), line(200)), false},
		"100, 100, 201 states":          {concat(line(100), line(201)), true},
		"200, 200, 1 states":            {concat(unused(200), unused(1)), true},
		"1000, 1000, 1000, 1000 edges":  {concat(wide(1000), wide(1000)), false},
		"1001, 1001, 999, 999 edges":    {concat(wide(1001), wide(999)), false},
		"1000, 1000, 1001, 1001 edges":  {concat(wide(1000), wide(1001)), true},
		"2001, 2001 edges":              {concat(wide(2001), unused(1)), true},
		"star of 199 states":            {of(Star, line(199)), false},
		"star of 200 states":            {of(Star, line(200)), true},
		"star of 1000 edges":            {of(Star, wide(1000)), false},
		"star of 1001 edges":            {of(Star, wide(1001)), true},
		"200, 199 states":               {union(line(200), line(199)), false},
		"200, 200 states":               {union(unused(200), unused(200)), true},
		"2 * 1000, 2 * 1000 edges":      {union(wide(1000), wide(1000)), false},
		"2 * 1000, 2 * 1001 edges":      {union(wide(1000), wide(1001)), true},
		"19 * 21 pairs":                 {both(circle(19), circle(21)), false},
		"20 * 21 pairs":                 {both(circle(20), circle(21)), true},
		"20 * 21 pairs that are dead":   {both(circle(20), dead(circle(21))), true},
		"50 * 80 edges":                 {both(parallel(50), parallel(80)), false},
		"4001 * 1 edges":                {both(dead(parallel(4000)), parallel(1)), false},
		"64 * 63 edges":                 {both(parallel(64), dead(parallel(63))), true},
		"50, 50 exceptions":             {both(someWords(50), others(50)), false},
		"50, 51 exceptions":             {both(someWords(50), others(51)), true},
		"51, 50 dead exceptions":        {both(dead(someWords(51)), others(50)), true},
		"100, 100 equal exceptions":     {both(someWords(100), someWords(100)), false},
		"not 100 words":                 {of(Not, ones(100)), false},
		"not 101 words":                 {of(Not, ones(101)), true},
		"not 101 dead words":            {of(Not, dead(ones(101))), true},
		"not one of 43 sets":            {of(Not, line(42)), false},
		"not one of 44 sets":            {of(Not, line(43)), true},
		"not one of many sets":          {of(Not, line(400)), true},
	} {
		a, e := c.make()
		if large := e == api.ErrLarge; large != c.large || !large && (e != api.OK || Check(a) != api.OK) || large && a.States != 0 {
			t.Errorf("%s: %d states and %d edges, %v", name, a.States, len(a.Edges), e)
		}
	}
}

// TestWithinLimits has the errors of Not, Both and Least.
func TestWithinLimits(t *testing.T) {
	for name, c := range map[string]struct {
		a, b Automaton
		want api.Errno
	}{
		"Not":           {ones(1), ones(101), api.ErrLarge},
		"Not alone":     {unused(1), line(43), api.ErrLarge},
		"Both":          {others(51), ones(50), api.ErrLarge},
		"Both, too":     {ones(51), ones(50), api.OK},
		"Least":         {doubled(12, 0), unused(1), api.ErrLarge},
		"not too large": {doubled(10, 0), unused(1), api.OK},
	} {
		ok, v, e := Within(c.a, c.b)
		if ok || e != c.want || (len(v) > 0) != (e == api.OK) {
			t.Errorf("Within that is too large for %s = %v, %d terms, %v, want %v", name, ok, len(v), e, c.want)
		}
	}
}

// Arguments as large as they may be are no matter of minutes.
func TestLargeArguments(t *testing.T) {
	words := Automaton{States: 400, Final: []int{399}}
	for i := range 4000 {
		x := Edge{From: i % 399, To: i%399 + 1, Kind: Words}
		for k := range 100 {
			x.Except = append(x.Except, word(strconv.Itoa(100000+100*i+k)))
		}
		words.Edges = append(words.Edges, x)
	}
	hundred := Automaton{States: 400, Final: []int{0, 1, 2, 3}}
	for i := range 4000 {
		hundred.Edges = append(hundred.Edges, Edge{From: i % 400, To: i * 7 % 400, Kind: Words, Except: symbols(100)})
	}
	deep := Automaton{States: 400, Final: []int{0}}
	for i := range 4000 {
		deep.Edges = append(deep.Edges, Edge{From: i % 400, To: i * 7 % 400, Kind: Nest, Inner: i * 13 % 400})
	}
	value := parsed(t, strings.Repeat("(A) ", 2000))
	for _, a := range []Automaton{words, hundred, deep, wide(4000)} {
		must(t, "Trim")(Trim(a))
		if _, e := Has(a, value); e != api.OK {
			t.Errorf("Has = %v", e)
		}
		if _, _, e := Least(a); e != api.OK && e != api.ErrLarge {
			t.Errorf("Least = %v", e)
		}
		for _, b := range []Automaton{words, hundred, deep, wide(4000)} {
			if _, e := Both(a, b); e != api.OK && e != api.ErrLarge {
				t.Errorf("Both = %v", e)
			}
		}
		if _, e := Not(a); e != api.OK && e != api.ErrLarge {
			t.Errorf("Not = %v", e)
		}
	}
}
