package builtin_test

import (
	"math/rand"
	"slices"
	"testing"

	"chiasmus/api"
	"chiasmus/builtin"
	"chiasmus/term"
)

// generator makes values; its numbers are the same in each run.
type generator struct{ *rand.Rand }

func newGenerator(seed int64) generator { return generator{rand.New(rand.NewSource(seed))} }

func (g generator) value(depth int) []api.Term {
	var l []api.Term
	for range g.Intn(5) {
		switch k := g.Intn(6); {
		case k == 0 && depth > 0:
			l = append(l, api.Term{Kind: api.Group, Kids: g.value(depth - 1)})
		case k == 1:
			l = append(l, api.Term{Kind: api.Number, Text: []string{"0", "2", "-5", "300", "97"}[g.Intn(5)]})
		case k == 2:
			l = append(l, api.Term{Kind: api.Word, Text: []string{"F", "x", "*", "a b"}[g.Intn(4)]})
		default:
			l = append(l, term.Chars("*VSaZ=-7"[g.Intn(8):][:1])...)
		}
	}
	return l
}

// must calls a function that has a value for an argument.
func must(t *testing.T, name string, arg []api.Term, st api.Store) ([]api.Term, api.Store) {
	t.Helper()
	l, after, e := builtin.Apply(name, arg, st)
	if e != api.OK {
		t.Fatalf("<%s %s> = %v", name, text(arg), e)
	}
	return l, after
}

func TestBack(t *testing.T) {
	g := newGenerator(1)
	for range 1000 {
		n := []api.Term{{Kind: api.Number, Text: []string{"0", "7", "-10", "123456789012345678901234567890"}[g.Intn(4)]}}
		w := []api.Term{{Kind: api.Word, Text: []string{"a", "a b", "'\"\\", long("w", 60)}[g.Intn(4)]}}
		v := g.value(2)
		for _, c := range []struct {
			there, back string
			arg         []api.Term
		}{{"Symb", "Numb", n}, {"Explode", "Implode", w}, {"Up", "Dn", v}} {
			l, _ := must(t, c.there, c.arg, api.Store{})
			if l, _ = must(t, c.back, l, api.Store{}); !term.Equal(l, c.arg) {
				t.Fatalf("%s of %s of %s = %s", c.back, c.there, text(c.arg), text(l))
			}
		}
		for _, name := range []string{"First", "Last"} {
			l, _ := must(t, name, append(parsed(t, []string{"0", "1", "2", "3", "7"}[g.Intn(5)]), v...), api.Store{})
			if l[0].Kind != api.Group || !term.Equal(append(slices.Clone(l[0].Kids), l[1:]...), v) {
				t.Fatalf("%s of %s = %s", name, text(v), text(l))
			}
		}
		ord, _ := must(t, "Ord", term.Chars("any\x00\xff"), api.Store{})
		if l, _ := must(t, "Chr", ord, api.Store{}); !term.Equal(l, term.Chars("any\x00\xff")) {
			t.Fatalf("Chr of Ord = %s", text(l))
		}
	}
}

// isKey reports whether Br can bury with a key.
func isKey(l []api.Term) bool {
	return !slices.ContainsFunc(l, func(t api.Term) bool { return t.Kind == api.Char && t.Text == "=" })
}

func TestStackPromises(t *testing.T) {
	g := newGenerator(2)
	var st api.Store
	for range 3000 {
		key, value, other := g.value(1), g.value(2), g.value(1)
		if !isKey(key) || len(st.Buried) > 150 {
			st.Buried = st.Buried[:len(st.Buried)/2]
			continue
		}
		before := storeText(st)
		others, _ := builtin.Get(st, other)
		arg := append(append(slices.Clone(key), term.Chars("=")...), value...)
		_, behind := must(t, "Br", arg, st)
		if storeText(st) != before {
			t.Fatalf("Br changed its argument")
		}
		if l, same := must(t, "Cp", key, behind); !term.Equal(l, value) || storeText(same) != storeText(behind) {
			t.Fatalf("Cp behind Br of %s = %s", text(arg), text(l))
		}
		if l, ahead := must(t, "Dg", key, behind); !term.Equal(l, value) || storeText(ahead) != before {
			t.Fatalf("Dg behind Br of %s = %s, %s", text(arg), text(l), storeText(ahead))
		}
		_, replaced := must(t, "Rp", arg, st)
		if values, _ := builtin.Get(replaced, key); len(values) == 0 || !term.Equal(values[0], value) {
			t.Fatalf("Get behind Rp of %s = %v", text(arg), values)
		}
		for _, after := range []api.Store{behind, replaced} {
			if values, _ := builtin.Get(after, other); !term.Equal(key, other) && !slices.EqualFunc(values, others, term.Equal) {
				t.Fatalf("Br of %s concerns %s", text(arg), text(other))
			}
		}
		st = behind
	}
}

func TestValues(t *testing.T) {
	g := newGenerator(3)
	taken := map[string]int{}
	for i := range 20000 {
		name := names[i%len(names)]
		arg := g.value(2)
		st := api.Store{Output: []string{"line"}}
		for range g.Intn(3) {
			st.Buried = append(st.Buried, api.Buried{Key: g.value(0), Value: g.value(2)})
		}
		before := storeText(st)
		l, after, e := builtin.Apply(name, arg, st)
		if storeText(st) != before {
			t.Fatalf("<%s %s> changed its argument", name, text(arg))
		}
		if e != api.OK {
			if e != api.ErrBuiltin {
				t.Fatalf("<%s %s> = %v", name, text(arg), e)
			}
			continue
		}
		taken[name]++
		if builtin.Check(after) != api.OK || !builtin.Keeps(name) && storeText(after) != before {
			t.Fatalf("<%s %s> leaves the store %s", name, text(arg), storeText(after))
		}
		isCall := name == "Mu" || name == "Dn"
		if term.Value(l) != api.OK && !isCall || term.Result(l) != api.OK || len(term.Variables(l)) > 0 {
			t.Fatalf("<%s %s> = %s", name, text(arg), text(l))
		}
	}
	for _, name := range names {
		if taken[name] == 0 {
			t.Errorf("%s took no argument", name)
		}
	}
}

// TestNothingIsChanged has a store with memory behind its ends, and changes what results.
func TestNothingIsChanged(t *testing.T) {
	all := store(t, "k=(v)", "k=w", "behind=x")
	all.Output = []string{"line", "behind"}
	st := api.Store{Buried: all.Buried[:2], Output: all.Output[:1]}
	arg := parsed(t, "k '=' (a) b")
	for _, c := range []struct {
		name string
		arg  []api.Term
	}{{"Br", arg}, {"Rp", arg}, {"Dg", arg[:1]}, {"Cp", arg[:1]}, {"Prout", arg}, {"Lenw", arg}, {"Upper", arg}, {"First", append(parsed(t, "1"), arg...)}, {"Mu", append(parsed(t, "F"), arg...)}} {
		l, after := must(t, c.name, c.arg, st)
		for i := range l {
			l[i].Text = "changed"
			for j := range l[i].Kids {
				l[i].Kids[j].Text = "changed"
			}
		}
		for i := range after.Buried {
			after.Buried[i] = api.Buried{}
		}
		for i := range after.Output {
			after.Output[i] = "changed"
		}
		if storeText(all) != "k=(v); k=w; behind=x; |line; |behind" || text(arg) != "k '=' (a) b" {
			t.Fatalf("behind %s the store is %s, the argument %s", c.name, storeText(all), text(arg))
		}
	}
	values, _ := builtin.Get(st, arg[:1])
	values[0][0].Kids[0].Text = "changed"
	if storeText(all) != "k=(v); k=w; behind=x; |line; |behind" {
		t.Errorf("behind Get the store is %s", storeText(all))
	}
}
