package code_test

import (
	"slices"
	"strings"
	"testing"

	"chiasmus/api"
	"chiasmus/code"
	"chiasmus/project"
)

// lines returns the text with some lines.
func lines(l ...string) string { return strings.Join(append(l, ""), "\n") }

// full has each kind of line.
const full = `$ENTRY F {
  s.1 (t.2 'a') e.3 s.1 = e.3 (s.1 ' ') <G s.1 t.2> t.2 "x y" x-y -3 '\n';
  e.1 A e.2 = <F>;
}
G-1 { (e.1) '\'' e.2 "a b" = ; = ; }
`

func fullText() string {
	return lines(
		"routine F entry",
		"rule",
		"takes 0 left s.1",
		"enter 0 left",
		"taket 1 left t.2",
		"symbol 1 left 'a'",
		"empty 1",
		"known 0 right s.1",
		"close 0 e.3",
		"move e.3",
		"begin",
		"copy s.1",
		"put ' '",
		"end",
		"call G",
		"move s.1",
		"copy t.2",
		"stop",
		"move t.2",
		`put "x y"`,
		"put x-y",
		"put -3",
		`put '\n'`,
		"rule",
		"open 0 e.1",
		"symbol 0 left A",
		"close 0 e.2",
		"call F",
		"stop",
		"routine G-1",
		"rule",
		"enter 0 left",
		"close 1 e.1",
		`symbol 0 left '\''`,
		`symbol 0 right "a b"`,
		"close 0 e.2",
		"rule",
		"empty 0",
	)
}

func TestWrite(t *testing.T) {
	for _, c := range []struct{ program, want string }{
		{full, fullText()},
		{example, lines("routine F", "rule", "takes 0 left s.1", "close 0 e.2", "move e.2", "begin", "copy s.1", "end",
			"call G", "move s.1", "stop", "routine G", "rule", "empty 0")},
	} {
		u := compiled(t, c.program)
		s, e := code.Write(u)
		if e != api.OK || s != c.want {
			t.Errorf("Write of %s = %s, %v, want %s", c.program, s, e, c.want)
		}
		again, n, e := code.Read(s)
		if e != api.OK || n != 0 || !sameUnits(again, u) {
			t.Errorf("Read of %s = %v, %d, %v", s, again, n, e)
		}
	}
	if s, e := code.Write(code.Unit{}); e != api.OK || s != "" {
		t.Errorf("Write of nothing = %q, %v", s, e)
	}
	if u, n, e := code.Read(""); e != api.OK || n != 0 || !isZero(u) {
		t.Errorf("Read of nothing = %v, %d, %v", u, n, e)
	}
}

// sized returns a unit whose text has so many bytes: a line `put b` has from 6 to 65 of them.
func sized(t *testing.T, size int) code.Unit {
	rule := ruleOf(t, "", "")
	for left := size - len(lines("routine F", "rule", "empty 0")); left > 0; {
		n := min(left, 65)
		if left > n && left < n+6 {
			n -= 6
		}
		rule.Build = append(rule.Build, instructions(t, long("b", n-5))...)
		left -= n
	}
	return unitOf(rule)
}

func TestLargeTexts(t *testing.T) {
	for size := 39990; size <= 40010; size++ {
		u := sized(t, size)
		s, e := code.Write(u)
		if size > 40000 {
			if e != api.ErrLarge || s != "" {
				t.Errorf("Write = %d bytes, %v", len(s), e)
			}
			continue
		}
		again, n, e2 := code.Read(s)
		if e != api.OK || len(s) != size || e2 != api.OK || n != 0 || !sameUnits(again, u) {
			t.Errorf("Write = %d bytes, %v, and Read of it %d, %v, want %d", len(s), e, n, e2, size)
		}
	}
	if u, n, e := code.Read(long("x", 40001)); e != api.ErrLarge || n != 0 || !isZero(u) {
		t.Errorf("Read = %v, %d, %v", u, n, e)
	}
	if u, n, e := code.Read(long("x", 40000)); e != code.ErrLine || n != 1 || !isZero(u) {
		t.Errorf("Read = %v, %d, %v", u, n, e)
	}
	huge := unitOf(slices.Repeat([]code.Rule{ruleOf(t, "", long("a ", 4000))}, 40)...)
	if s, e := code.Write(huge); e != api.ErrLarge || s != "" {
		t.Errorf("Write = %d bytes, %v", len(s), e)
	}
}

// TestWrongLines puts lines that are not right into the text of a unit: behind an operation, and behind an instruction.
func TestWrongLines(t *testing.T) {
	head := []string{"routine F", "rule", "takes 0 left s.1", "close 0 e.2"}
	for _, l := range []string{
		"", " ", "x", "Rule", "rule ", " rule", "rule x", "rules", "rule\r", "rule\x00", "routine\x00 G", "routin G", "routinex G",
		"routine", "routine ", "routine G ", "routine  G", "routine G H", "routine G entry ", "routine G entry x", "routine G  entry", "routine G\tentry x",
		"symbol", "symbol 0", "symbol 0 left", "symbol 0 left ", "symbol 0 'a'", "symbol 0 up 'a'", "symbol 0 left 'ab'", "symbol 0 left s.1", "symbol 0 left ()",
		"symbol 0 left  'a'", "symbol 0 left 'a' ", "symbol left 'a'", "symbol 0 left a'", "symbol 0 left 01", "symbol 0 left ''", "symbol 0 left a b",
		"enter 0", "enter 0 left e.1", "enter 0 left ", "enter x left", "enter -1 left", "enter +0 left", "enter  left", "enter 0left", "enter 99999999999999999999 left",
		"takes 0 left", "takes 0 s.1", "takes 0 left s.1 s.2", "takes 0 left s.1 ", "taket 0 right", "taket 0 Left t.1", "known 0", "known 0 right",
		"empty", "empty 0 left", "empty 0 ", "empty e.1", "close 0", "close 0 left e.1", "close e.1", "open 0", "open 0 right e.1", "Open 0 e.1", "open 0 e.1 e.2",
		"put", "put ", "put 'ab'", "put e.1", "put (a)", "put (", "put <F>", "put a b", "put  a", "put a ", "put '", "put 1a",
		"begin ", "begin x", "end x", "stop F", "call", "call ", "call F G", "call F ", "move", "move ", "move e.1 e.2", "move e.1 ", "copy", "copy  e.1", "copy e.1 x",
		// words that are no names, and no variables
		"routine 0", "routine 1G entry", "routine -", "routine _G", "routine G.", "routine e.1", "routine <G>", "routine " + long("g", 41), "routine \xe4",
		"call 5", "call -1", "call G.H", "call s.1", "call 'G'", "call " + long("g", 41),
		"takes 0 left s", "takes 0 left 's'", "taket 0 right t.", "taket 0 left t.a-b", "known 0 left e", "known 0 right x.1", "known 0 left e." + long("x", 41),
		"close 0 5", "close 0 E.1", "open 0 5", "open 0 e", "open 0 e.1.2", "open 0 e.\xe4", "open 0 entry",
		"move 5", "move x", "move s.", "move .1", "move e.x_", "move e." + long("x", 41), "copy s.", "copy 1", "copy t.*",
	} {
		for _, behind := range [][]string{nil, {"move s.1"}} {
			text := slices.Concat(head, behind, []string{l, "nothing"})
			u, n, e := code.Read(lines(text...))
			if e != code.ErrLine || n != len(text)-1 || !isZero(u) {
				t.Errorf("Read with the line %q = %v, %d, %v, want %d", l, u, n, e, len(text)-1)
			}
		}
	}
}

// TestLinePlaces has right lines where they may not stand, and ends of texts.
func TestLinePlaces(t *testing.T) {
	ops := []string{"symbol 0 left 'a'", "enter 0 right", "takes 0 left s.9", "taket 0 left t.9", "known 0 left s.1", "empty 0", "close 0 e.9", "open 0 e.9"}
	inss := []string{"put 'a'", "begin", "end", "call F", "stop", "move s.1", "copy s.1"}
	for _, l := range slices.Concat(ops, inss, []string{"rule"}) {
		if _, n, e := code.Read(lines(l, "routine F")); e != code.ErrLine || n != 1 {
			t.Errorf("Read of %q ahead of a routine = %d, %v", l, n, e)
		}
	}
	for _, l := range slices.Concat(ops, inss) {
		if _, n, e := code.Read(lines("routine F", l)); e != code.ErrLine || n != 2 {
			t.Errorf("Read of %q ahead of a rule = %d, %v", l, n, e)
		}
		if _, n, e := code.Read(lines("routine F", "rule", "empty 0", "routine G", l)); e != code.ErrLine || n != 5 {
			t.Errorf("Read of %q ahead of a rule of the second routine = %d, %v", l, n, e)
		}
	}
	for _, i := range inss {
		for _, o := range ops {
			if _, n, e := code.Read(lines("routine F", "rule", i, o)); e != code.ErrLine || n != 4 {
				t.Errorf("Read of %q behind %q = %d, %v", o, i, n, e)
			}
			if _, n, e := code.Read(lines("routine F", "rule", i, "rule", o)); e == code.ErrLine || n != 0 {
				t.Errorf("Read of %q in the rule behind that of %q = %d, %v", o, i, n, e)
			}
		}
	}
	right := strings.TrimSuffix(fullText(), "\n")
	if u, n, e := code.Read(right); e != code.ErrLine || n != strings.Count(right, "\n")+1 || !isZero(u) {
		t.Errorf("Read without the last line feed = %d, %v", n, e)
	}
	if _, n, e := code.Read(right + "\n\n"); e != code.ErrLine || n != strings.Count(right, "\n")+2 {
		t.Errorf("Read with an empty line = %d, %v", n, e)
	}
	if _, n, e := code.Read("x\nroutine F"); e != code.ErrLine || n != 1 {
		t.Errorf("Read = %d, %v", n, e)
	}
}

// TestReadErrors has texts whose lines are right, but not what they mean.
func TestReadErrors(t *testing.T) {
	var many []string
	for range 151 {
		many = append(many, "routine F")
	}
	rule := func(l ...string) []string { return append([]string{"routine F", "rule"}, l...) }
	for _, c := range []struct {
		lines []string
		e     api.Errno
	}{
		{many, api.ErrCount},
		{append(rule("empty 0"), slices.Repeat([]string{"rule", "empty 0"}, 40)...), api.ErrCount},
		{[]string{"routine entry entry", "rule", "empty 0"}, api.OK},
		{append(rule("empty 0"), rule("empty 0")...), code.ErrUnit},
		{rule(), project.ErrPlan},
		{rule("put a"), project.ErrPlan},
		{rule("takes 0 left e.1", "empty 0"), project.ErrPlan},
		{rule("open 0 s.1", "empty 0"), project.ErrPlan},
		{rule("takes 0 left s.1", "takes 0 left s.1", "empty 0"), project.ErrPlan},
		{rule("empty 1"), project.ErrPlan},
		{rule("open 0 e.1", "empty 0"), code.ErrUnit},
		{rule("takes 0 right s.1", "empty 0"), code.ErrUnit},
		{rule("known 0 left e.1", "empty 0"), project.ErrPlan},
		{rule("close 0 e.1", "copy e.1"), code.ErrUnit},
		{rule("close 0 e.1", "move e.2"), code.ErrUnit},
		{rule("empty 0", "copy s.1"), code.ErrUnit},
		{rule("close 0 e.1", "begin"), code.ErrUnit},
		{rule("close 0 e.1", "end"), code.ErrUnit},
		// the unit is right, but has no text: its program is not right
		{[]string{"routine F"}, code.ErrUnit},
		// the unit is right, but has another text
		{rule("empty 00"), code.ErrUnit},
		{rule("empty 0", `put "a"`), code.ErrUnit},
		{rule("empty 0", `put '\x61'`), code.ErrUnit},
		{rule(`symbol 0 left "a"`, "empty 0"), code.ErrUnit},
		{rule("empty 0", "put a"), api.OK},
		// the longest names
		{[]string{"routine " + long("f", 40), "rule", "close 0 e." + long("x", 40), "call " + long("G", 40), "move e." + long("x", 40), "stop"}, api.OK},
	} {
		u, n, e := code.Read(lines(c.lines...))
		if e != c.e || n != 0 || e != api.OK && !isZero(u) {
			t.Errorf("Read of %q = %v, %d, %v, want %v", c.lines, u, n, e, c.e)
		}
	}
}

func FuzzRead(f *testing.F) {
	f.Add(fullText())
	f.Fuzz(func(t *testing.T, s string) {
		u, n, e := code.Read(s)
		if e != api.OK {
			if !isZero(u) || (n == 0) == (e == code.ErrLine) || n > strings.Count(s, "\n")+1 {
				t.Errorf("Read = %v, %d, %v", u, n, e)
			}
			return
		}
		if again, e := code.Write(u); e != api.OK || again != s || n != 0 {
			t.Errorf("Read of %q is written as %q, %v", s, again, e)
		}
	})
}
