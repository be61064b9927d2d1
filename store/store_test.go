package store

import (
	"slices"
	"strings"
	"testing"

	"chiasmus/api"
	"chiasmus/term"
)

func parsed(t *testing.T, s string) []api.Term {
	t.Helper()
	l, at, e := term.Parse(s)
	if e != api.OK {
		t.Fatalf("Parse(%q) = %d, %v", s, at, e)
	}
	return l
}

func made(t *testing.T, cells int) *Store {
	t.Helper()
	s, e := New(cells)
	if e != api.OK {
		t.Fatalf("New(%d) = %v", cells, e)
	}
	return s
}

// put returns the handle of the expression with a text.
func put(t *testing.T, s *Store, text string) int {
	t.Helper()
	h, e := s.Put(parsed(t, text))
	if e != api.OK {
		t.Fatalf("Put(%s) = %v", text, e)
	}
	return h
}

func copied(t *testing.T, s *Store, h int) int {
	t.Helper()
	c, e := s.Copy(h)
	if e != api.OK {
		t.Fatalf("Copy(%d) = %v", h, e)
	}
	return c
}

// holds checks the expression of a handle.
func holds(t *testing.T, s *Store, h int, want string) {
	t.Helper()
	l, e := s.Get(h)
	text, _ := term.Text(l)
	if e != api.OK || !term.Equal(l, parsed(t, want)) {
		t.Errorf("Get(%d) = %s, %v, want %s", h, text, e, want)
	}
	if !s.Check() {
		t.Errorf("Check behind %s", want)
	}
}

// uses checks how many cells are used and live.
func uses(t *testing.T, s *Store, used, live int) {
	t.Helper()
	if u, l := s.Used(); u != used || l != live {
		t.Errorf("Used = %d, %d, want %d, %d", u, l, used, live)
	}
}

// nested returns groups within each other.
func nested(depth int) string { return strings.Repeat("(", depth) + strings.Repeat(")", depth) }

func TestExample(t *testing.T) {
	s := made(t, 10)
	h := put(t, s, "a (b) c")
	uses(t, s, 5, 5)
	c := copied(t, s, h)
	uses(t, s, 5, 5)
	b, e := s.Cut(c, []int{1}, 0, 1)
	if e != api.OK || b != 3 {
		t.Errorf("Cut = %d, %v", b, e)
	}
	holds(t, s, h, "a (b) c")
	holds(t, s, c, "a () c")
	holds(t, s, b, "b")
	uses(t, s, 10, 10)
}

func TestNew(t *testing.T) {
	for cells, want := range map[int]api.Errno{-1: api.ErrRange, 0: api.OK, 100000: api.OK, 100001: api.ErrRange} {
		if s, e := New(cells); e != want || (s == nil) != (e != api.OK) {
			t.Errorf("New(%d) = %v, %v", cells, s, e)
		}
	}
	s := made(t, 0)
	if h, e := s.Put(nil); h != 1 || e != api.OK {
		t.Errorf("Put of nothing in no cells = %d, %v", h, e)
	}
	if h, e := s.Put(parsed(t, "a")); h != 0 || e != api.ErrLarge {
		t.Errorf("Put in no cells = %d, %v", h, e)
	}
	holds(t, s, 1, "")
}

func TestNil(t *testing.T) {
	var s *Store
	if h, e := s.Put(nil); h != 0 || e != api.ErrArgument {
		t.Errorf("Put = %d, %v", h, e)
	}
	if l, e := s.Get(1); len(l) != 0 || e != api.ErrArgument {
		t.Errorf("Get = %v, %v", l, e)
	}
	if h, e := s.Copy(1); h != 0 || e != api.ErrArgument {
		t.Errorf("Copy = %d, %v", h, e)
	}
	if h, e := s.Cut(1, nil, 0, 0); h != 0 || e != api.ErrArgument {
		t.Errorf("Cut = %d, %v", h, e)
	}
	if same, e := s.Equal(1, 1); same || e != api.ErrArgument {
		t.Errorf("Equal = %v, %v", same, e)
	}
	if s.Drop(1) != api.ErrArgument || s.Move(1, 2, nil, 0) != api.ErrArgument {
		t.Error("Drop or Move")
	}
	if u, l := s.Used(); u != 0 || l != 0 || s.Collect() != 0 || len(s.Handles()) != 0 || s.Check() {
		t.Error("Used, Collect, Handles or Check")
	}
}

func TestPut(t *testing.T) {
	s := made(t, 20000)
	for i, text := range []string{"", "'a' b 1 s.x t.x e.x", "<F (<G> ('b')) ()> (((c)))", nested(100), strings.Repeat("() ", 4000)} {
		h, e := s.Put(parsed(t, text))
		if h != i+1 || e != api.OK {
			t.Errorf("Put(%s) = %d, %v", text, h, e)
		}
		holds(t, s, h, text)
	}
	uses(t, s, 6+18+200+8000, 6+18+200+8000)
	for _, c := range []struct {
		e    []api.Term
		want api.Errno
	}{
		{make([]api.Term, 4001), api.ErrCount},
		{[]api.Term{{Kind: api.Group, Kids: parsed(t, nested(100))}}, api.ErrDepth},
		{[]api.Term{{Kind: 9}}, api.ErrForm},
		{[]api.Term{{Kind: api.Char, Text: "ab"}}, api.ErrForm},
		{[]api.Term{{Kind: api.Word, Text: "a", Kids: parsed(t, "b")}}, api.ErrForm},
	} {
		if h, e := s.Put(c.e); h != 0 || e != c.want {
			t.Errorf("Put of a wrong expression = %d, %v, want %v", h, e, c.want)
		}
	}
	if h, e := made(t, 0).Put([]api.Term{{Kind: 9}}); h != 0 || e != api.ErrForm {
		t.Errorf("Put of a wrong expression in no cells = %d, %v", h, e)
	}
}

// TestCells counts the cells of expressions that are in no store.
func TestCells(t *testing.T) {
	for _, text := range []string{"", "'a' b 1 s.x t.x e.x", "a (b) c", "<F (<G> ('b')) ()> (((c)))", nested(100), strings.Repeat("() ", 4000)} {
		s := made(t, 20000)
		if _, e := s.Put(parsed(t, text)); e != api.OK {
			t.Fatalf("Put(%s) = %v", text, e)
		}
		if used, _ := s.Used(); Cells(parsed(t, text)) != used {
			t.Errorf("Cells of %s is %d, want %d", text, Cells(parsed(t, text)), used)
		}
	}
}

// A result shares nothing with the store, nor does what was put.
func TestMemory(t *testing.T) {
	s := made(t, 20)
	e := parsed(t, "a (b)")
	h, _ := s.Put(e)
	e[1].Kids[0].Text = "x"
	l, _ := s.Get(h)
	l[1].Kids[0].Text = "y"
	l[0].Text = "y"
	holds(t, s, h, "a (b)")
}

func TestHandles(t *testing.T) {
	s := made(t, 20)
	for range 3 {
		put(t, s, "a")
	}
	copied(t, s, 2)
	for _, h := range []int{2, 1} {
		if e := s.Drop(h); e != api.OK {
			t.Errorf("Drop(%d) = %v", h, e)
		}
	}
	if l := s.Handles(); !slices.Equal(l, []int{3, 4}) {
		t.Errorf("Handles = %v", l)
	}
	if h := put(t, s, "b"); h != 1 {
		t.Errorf("the least handle = %d", h)
	}
	if h := copied(t, s, 4); h != 2 {
		t.Errorf("the next one = %d", h)
	}
	if h := put(t, s, ""); h != 5 {
		t.Errorf("a handle behind all = %d", h)
	}
	if e := s.Move(3, 5, nil, 0); e != api.OK {
		t.Errorf("Move = %v", e)
	}
	if h, _ := s.Cut(5, nil, 0, 0); h != 3 {
		t.Errorf("Cut uses the handle that Move gave up: %d", h)
	}
	if l := s.Handles(); !slices.Equal(l, []int{1, 2, 3, 4, 5}) {
		t.Errorf("Handles = %v", l)
	}
	for _, h := range []int{0, -1, 6, 1 << 62, -1 << 63} {
		if _, e := s.Get(h); e != ErrHandle {
			t.Errorf("Get(%d) = %v", h, e)
		}
		if _, e := s.Copy(h); e != ErrHandle {
			t.Errorf("Copy(%d) = %v", h, e)
		}
		if e := s.Drop(h); e != ErrHandle {
			t.Errorf("Drop(%d) = %v", h, e)
		}
		if _, e := s.Cut(h, []int{7}, 2, 1); e != ErrHandle {
			t.Errorf("Cut(%d) = %v", h, e)
		}
		if e := s.Move(h, 1, []int{7}, -1); e != ErrHandle {
			t.Errorf("Move(%d, 1) = %v", h, e)
		}
		if e := s.Move(1, h, []int{7}, -1); e != ErrHandle {
			t.Errorf("Move(1, %d) = %v", h, e)
		}
		if e := s.Move(h, h, nil, 0); e != ErrHandle {
			t.Errorf("Move(%d, %d) = %v", h, h, e)
		}
		if same, e := s.Equal(1, h); same || e != ErrHandle {
			t.Errorf("Equal(1, %d) = %v, %v", h, same, e)
		}
		if same, e := s.Equal(h, h); same || e != ErrHandle {
			t.Errorf("Equal(%d, %d) = %v, %v", h, h, same, e)
		}
	}
}

func TestMove(t *testing.T) {
	for _, c := range []struct {
		to   string
		path []int
		at   int
		want string
	}{
		{"a (b) c", nil, 0, "x (y) a (b) c"},
		{"a (b) c", nil, 1, "a x (y) (b) c"},
		{"a (b) c", nil, 2, "a (b) x (y) c"},
		{"a (b) c", nil, 3, "a (b) c x (y)"},
		{"a (b) c", []int{1}, 0, "a (x (y) b) c"},
		{"a (b) c", []int{1}, 1, "a (b x (y)) c"},
		{"", nil, 0, "x (y)"},
		{"<F>", []int{0}, 0, "<F x (y)>"},
		{"a <F (b) (c ())>", []int{1, 1, 1}, 0, "a <F (b) (c (x (y)))>"},
	} {
		s := made(t, 30)
		to, from := put(t, s, c.to), put(t, s, "x (y)")
		used, _ := s.Used()
		if e := s.Move(from, to, c.path, c.at); e != api.OK {
			t.Errorf("Move to %v, %d of %s = %v", c.path, c.at, c.to, e)
		}
		holds(t, s, to, c.want)
		uses(t, s, used, used)
		if l := s.Handles(); !slices.Equal(l, []int{1}) {
			t.Errorf("Handles = %v", l)
		}
	}
}

func TestMoveErrors(t *testing.T) {
	s := made(t, 300)
	to, from := put(t, s, "a (b) <F c>"), put(t, s, "x")
	for _, c := range []struct {
		from, to int
		path     []int
		at       int
		want     api.Errno
	}{
		{to, to, []int{0}, -1, api.ErrArgument},
		{from, to, []int{0}, -1, api.ErrMissing},
		{from, to, []int{3}, 0, api.ErrMissing},
		{from, to, []int{-1}, 0, api.ErrMissing},
		{from, to, []int{1, 0}, 0, api.ErrMissing},
		{from, to, []int{1, 1}, 0, api.ErrMissing},
		{from, to, []int{1 << 62}, 0, api.ErrMissing},
		{from, to, make([]int, 100000), 0, api.ErrMissing},
		{from, to, nil, -1, api.ErrRange},
		{from, to, nil, 4, api.ErrRange},
		{from, to, []int{1}, 2, api.ErrRange},
		{from, to, []int{2}, -1 << 63, api.ErrRange},
		{from, to, []int{2}, 1<<63 - 1, api.ErrRange},
	} {
		if e := s.Move(c.from, c.to, c.path, c.at); e != c.want {
			t.Errorf("Move(%d, %d, %v, %d) = %v, want %v", c.from, c.to, c.path[:min(len(c.path), 3)], c.at, e, c.want)
		}
	}
	holds(t, s, to, "a (b) <F c>")
	holds(t, s, from, "x")
}

func TestDepth(t *testing.T) {
	s := made(t, 300)
	deep, group, none := put(t, s, nested(100)), put(t, s, "<F>"), put(t, s, "")
	path := make([]int, 100)
	if e := s.Move(group, deep, path, 0); e != api.ErrDepth {
		t.Errorf("Move of a call into 100 groups = %v", e)
	}
	if e := s.Move(group, deep, path, 1); e != api.ErrRange {
		t.Errorf("Move of a call into 100 groups at 1 = %v", e)
	}
	if e := s.Move(deep, group, []int{0}, 0); e != api.ErrDepth {
		t.Errorf("Move of 100 groups into a call = %v", e)
	}
	if e := s.Move(none, deep, path, 0); e != api.OK {
		t.Errorf("Move of nothing into 100 groups = %v", e)
	}
	holds(t, s, deep, nested(100))
	if e := s.Move(group, deep, path[:99], 0); e != api.OK {
		t.Errorf("Move of a call into 99 groups = %v", e)
	}
	holds(t, s, deep, strings.Repeat("(", 99)+"<F> ()"+strings.Repeat(")", 99))
	symbol := put(t, s, "a")
	if e := s.Move(symbol, deep, path, 0); e != api.OK {
		t.Errorf("Move of a symbol into 100 groups = %v", e)
	}
	if e := s.Move(put(t, s, "a"), deep, append(path, 0), 0); e != api.ErrMissing {
		t.Errorf("Move into 101 groups = %v", e)
	}
}

func TestMoveNeeds(t *testing.T) {
	for _, c := range []struct {
		name            string
		from, to, other string // the handles ahead: texts of new ones, or numbers of those to copy
		need            int
	}{
		{"both alone", "x (y)", "a", "", 0},
		{"a copied one", "x (y)", "a", "1", 4},
		{"into a copied one", "x (y)", "a", "2", 1},
		{"into its own copy", "x (y)", "1", "", 4},
		{"into its own copy, with a third one", "x (y)", "1", "1", 8},
		{"nothing into a copied one", "", "a (b)", "2", 4},
		{"a copied nothing", "", "a", "1", 0},
	} {
		for less := range 2 {
			if c.need < less {
				continue
			}
			s := made(t, 100)
			for _, h := range []string{c.from, c.to, c.other} {
				if h == "1" || h == "2" {
					copied(t, s, int(h[0]-'0'))
				} else {
					put(t, s, h)
				}
			}
			used, _ := s.Used()
			s.most = used + c.need - less
			before := [][]api.Term{}
			for _, h := range s.Handles() {
				l, _ := s.Get(h)
				before = append(before, l)
			}
			if e := s.Move(1, 2, nil, 0); (e == api.OK) != (less == 0) || less > 0 && e != api.ErrLarge {
				t.Errorf("%s: Move with %d cells = %v", c.name, c.need-less, e)
			}
			uses(t, s, used+c.need*(1-less), used+c.need*(1-less))
			third, _ := s.Get(3)
			if !term.Equal(third, before[2]) || !s.Check() {
				t.Errorf("%s: the other handle has %v", c.name, third)
			}
			if second, _ := s.Get(2); less == 0 && !term.Equal(second, slices.Concat(before[0], before[1])) {
				t.Errorf("%s: %v", c.name, second)
			}
		}
	}
}

func TestCut(t *testing.T) {
	for _, c := range []struct {
		of       string
		path     []int
		from, to int
		cut      string
		left     string
	}{
		{"a (b) c", nil, 0, 3, "a (b) c", ""},
		{"a (b) c", nil, 0, 2, "a (b)", "c"},
		{"a (b) c", nil, 1, 3, "(b) c", "a"},
		{"a (b) c", nil, 1, 2, "(b)", "a c"},
		{"a (b) c", nil, 1, 1, "", "a (b) c"},
		{"a (b) c", nil, 3, 3, "", "a (b) c"},
		{"a (b) c", []int{1}, 0, 1, "b", "a () c"},
		{"a (b) c", []int{1}, 1, 1, "", "a (b) c"},
		{"<F (a b (c) <G d>)>", []int{0, 0}, 2, 4, "(c) <G d>", "<F (a b)>"},
		{"<F (a b (c) <G d>)>", []int{0, 0, 3}, 0, 1, "d", "<F (a b (c) <G>)>"},
		{"", nil, 0, 0, "", ""},
	} {
		s := made(t, 30)
		h := put(t, s, c.of)
		used, _ := s.Used()
		k, e := s.Cut(h, c.path, c.from, c.to)
		if k != 2 || e != api.OK {
			t.Errorf("Cut(%v, %d, %d) of %s = %d, %v", c.path, c.from, c.to, c.of, k, e)
		}
		holds(t, s, h, c.left)
		holds(t, s, k, c.cut)
		uses(t, s, used, used)
		if e := s.Move(k, h, c.path, c.from); e != api.OK {
			t.Errorf("Move of %s back = %v", c.cut, e)
		}
		holds(t, s, h, c.of)
	}
}

func TestCutErrors(t *testing.T) {
	s := made(t, 10)
	h := put(t, s, "a (b) c")
	copied(t, s, h)
	put(t, s, "x")
	for _, c := range []struct {
		path     []int
		from, to int
		want     api.Errno
	}{
		{[]int{0}, -1, 0, api.ErrMissing},
		{[]int{3}, 0, 0, api.ErrMissing},
		{[]int{1, 0}, 0, 0, api.ErrMissing},
		{nil, -1, 2, api.ErrRange},
		{nil, 2, 1, api.ErrRange},
		{nil, 0, 4, api.ErrRange},
		{nil, 4, 4, api.ErrRange},
		{[]int{1}, 0, 2, api.ErrRange},
		{nil, -1 << 63, 1<<63 - 1, api.ErrRange},
		{nil, 0, 1, api.ErrLarge},
		{nil, 1, 1, api.ErrLarge}, // nothing is cut, but the block has to be the handle's own
	} {
		if k, e := s.Cut(h, c.path, c.from, c.to); k != 0 || e != c.want {
			t.Errorf("Cut(%v, %d, %d) = %d, %v, want %v", c.path, c.from, c.to, k, e, c.want)
		}
		holds(t, s, h, "a (b) c")
		uses(t, s, 6, 6)
	}
	if !slices.Equal(s.Handles(), []int{1, 2, 3}) {
		t.Errorf("Handles = %v", s.Handles())
	}
}

func TestGarbage(t *testing.T) {
	s := made(t, 10)
	h := put(t, s, "a (b) c")
	c := copied(t, s, h)
	s.Drop(h)
	uses(t, s, 5, 5)
	s.Drop(c)
	uses(t, s, 5, 0)
	h = put(t, s, "a b c d")
	uses(t, s, 9, 4)
	if h := put(t, s, "e"); h != 2 { // just the cells that there are: nothing is collected
		t.Errorf("Put = %d", h)
	}
	uses(t, s, 10, 5)
	if _, e := s.Put(parsed(t, "a b c d e f")); e != api.ErrLarge {
		t.Errorf("Put = %v", e)
	}
	uses(t, s, 5, 5) // collected with the error
	s.Drop(2)
	uses(t, s, 5, 4)
	put(t, s, "(f) ()")
	uses(t, s, 10, 9)
	put(t, s, "g")
	uses(t, s, 10, 10)
	holds(t, s, h, "a b c d")
	s.Drop(h)
	if n := s.Collect(); n != 4 {
		t.Errorf("Collect = %d", n)
	}
	if n := s.Collect(); n != 0 {
		t.Errorf("Collect again = %d", n)
	}
	uses(t, s, 6, 6)
	holds(t, s, 2, "(f) ()")
	holds(t, s, 3, "g")
}

// Garbage is collected where cells are needed, and not for an error that comes ahead.
func TestCollectedWhenNeeded(t *testing.T) {
	for name, do := range map[string]func(s *Store) api.Errno{
		"Move": func(s *Store) api.Errno { return s.Move(1, 2, nil, 0) },
		"Cut":  func(s *Store) api.Errno { _, e := s.Cut(1, nil, 0, 1); return e },
	} {
		s := made(t, 6)
		h := put(t, s, "a b")
		copied(t, s, h)
		s.Drop(put(t, s, "c d e"))
		for _, e := range []api.Errno{s.Move(1, 2, nil, 3), s.Move(1, 2, []int{0}, 0)} {
			if e == api.OK {
				t.Errorf("%s: Move of nothing", name)
			}
		}
		uses(t, s, 5, 2)
		if e := do(s); e != api.OK {
			t.Errorf("%s = %v", name, e)
		}
		uses(t, s, 4, 4)
		if !s.Check() {
			t.Errorf("Check behind %s", name)
		}
	}
}

func TestEqual(t *testing.T) {
	texts := []string{"", "a", "'a'", "1", "\"1\"", "s.a", "t.a", "e.a", "()", "<F>", "<G>", "(a)", "<F a>", "() a", "(a) b", "(a b)", "((a) b)", "((a b))", "'ab'", "'aba'"}
	s := made(t, 200)
	var handles []int
	for range 2 {
		for _, text := range texts {
			handles = append(handles, put(t, s, text))
		}
	}
	for i, g := range handles {
		for j, h := range handles {
			want := i%len(texts) == j%len(texts)
			if same, e := s.Equal(g, h); same != want || e != api.OK {
				t.Errorf("Equal of %s and %s = %v, %v", texts[i%len(texts)], texts[j%len(texts)], same, e)
			}
		}
		if same, _ := s.Equal(g, copied(t, s, g)); !same {
			t.Errorf("%s is not its copy", texts[i%len(texts)])
		}
	}
}

// An expression may have more terms than one that is put.
func TestLarge(t *testing.T) {
	s := made(t, MaxCells)
	part := parsed(t, strings.Repeat("(a) ", 2000))
	h := put(t, s, "")
	for range 16 {
		k, e := s.Put(part)
		if e != api.OK {
			t.Fatalf("Put = %v", e)
		}
		if e := s.Move(k, h, nil, 0); e != api.OK {
			t.Fatalf("Move = %v", e)
		}
	}
	uses(t, s, 96000, 96000)
	if k, e := s.Put(part); k != 0 || e != api.ErrLarge {
		t.Errorf("Put in a full store = %d, %v", k, e)
	}
	l, e := s.Get(h)
	if len(l) != 32000 || e != api.OK || !s.Check() {
		t.Errorf("Get returns %d terms, %v", len(l), e)
	}
	k, e := s.Cut(h, nil, 1, 31999)
	if e != api.OK {
		t.Errorf("Cut = %v", e)
	}
	holds(t, s, h, "(a) (a)")
	s.Drop(k)
	uses(t, s, 96000, 6)
	if k, e := s.Put(part); k != 2 || e != api.OK {
		t.Errorf("Put in the place of garbage = %d, %v", k, e)
	}
	uses(t, s, 6006, 6006)
}
