package store

import (
	"math/rand"
	"slices"
	"testing"

	"chiasmus/api"
	"chiasmus/term"
)

// expression is a block of the model: it has no cells, but counts them.
type expression struct {
	terms   []api.Term
	handles int
}

// cells counts in its own way: one cell for each term, and one more for each that has brackets.
func (x *expression) cells() int { return cellsIn(x.terms) }

func cellsIn(l []api.Term) int {
	n, _ := term.Size(l)
	for _, t := range l {
		n += bracketsIn(t)
	}
	return n
}

func bracketsIn(t api.Term) int {
	n := 0
	if t.Kind == api.Group || t.Kind == api.Call {
		n = 1
	}
	for _, kid := range t.Kids {
		n += bracketsIn(kid)
	}
	return n
}

// model is what a store has to be: expressions by handles, whose lists are written anew each time.
type model struct {
	most    int
	handles map[int]*expression
	garbage int
}

// live returns the cells of all expressions with handles.
func (m *model) live() int {
	n := 0
	seen := map[*expression]bool{}
	for _, x := range m.handles {
		if !seen[x] {
			n += x.cells()
		}
		seen[x] = true
	}
	return n
}

func (m *model) need(n int) api.Errno {
	if m.live()+m.garbage+n > m.most {
		m.garbage = 0
	}
	if m.live()+n > m.most {
		return api.ErrLarge
	}
	return api.OK
}

func (m *model) hold(x *expression) int {
	h := 1
	for m.handles[h] != nil {
		h++
	}
	m.handles[h] = x
	x.handles++
	return h
}

func (m *model) put(e []api.Term) (int, api.Errno) {
	if code := term.Result(e); code != api.OK {
		return 0, code
	}
	if code := m.need(cellsIn(e)); code != api.OK {
		return 0, code
	}
	return m.hold(&expression{terms: e}), api.OK
}

func (m *model) drop(h int) api.Errno {
	x := m.handles[h]
	if x == nil {
		return ErrHandle
	}
	delete(m.handles, h)
	x.handles--
	if x.handles == 0 {
		m.garbage += x.cells()
	}
	return api.OK
}

// listAt returns the list at a path.
func listAt(l []api.Term, path []int) ([]api.Term, bool) {
	if len(path) == 0 {
		return l, true
	}
	t, ok := term.At(l, path)
	return t.Kids, ok && (t.Kind == api.Group || t.Kind == api.Call)
}

// with returns an expression with another list at a path.
func with(l []api.Term, path []int, list []api.Term) []api.Term {
	if len(path) == 0 {
		return list
	}
	t, _ := term.At(l, path)
	t.Kids = list
	l, _ = term.Put(l, path, []api.Term{t})
	return l
}

// own gives a handle an expression of its own.
func (m *model) own(h int) *expression {
	x := m.handles[h]
	if x.handles > 1 {
		x.handles--
		x = &expression{x.terms, 1}
		m.handles[h] = x
	}
	return x
}

func (m *model) move(from, to int, path []int, at int) api.Errno {
	f, x := m.handles[from], m.handles[to]
	if f == nil || x == nil {
		return ErrHandle
	}
	if from == to {
		return api.ErrArgument
	}
	l, ok := listAt(x.terms, path)
	if !ok {
		return api.ErrMissing
	}
	if at < 0 || at > len(l) {
		return api.ErrRange
	}
	moved := with(x.terms, path, slices.Insert(slices.Clone(l), at, f.terms...))
	if _, depth := term.Size(moved); depth > api.MaxDepth {
		return api.ErrDepth
	}
	n := 0
	if f.handles > 1 {
		n += f.cells()
	}
	if f != x && x.handles > 1 || f == x && x.handles > 2 {
		n += x.cells()
	}
	if code := m.need(n); code != api.OK {
		return code
	}
	delete(m.handles, from)
	f.handles--
	m.own(to).terms = moved
	return api.OK
}

func (m *model) cut(h int, path []int, from, to int) (int, api.Errno) {
	x := m.handles[h]
	if x == nil {
		return 0, ErrHandle
	}
	l, ok := listAt(x.terms, path)
	if !ok {
		return 0, api.ErrMissing
	}
	if from < 0 || from > to || to > len(l) {
		return 0, api.ErrRange
	}
	if x.handles > 1 {
		if code := m.need(x.cells()); code != api.OK {
			return 0, code
		}
	}
	part := slices.Clone(l[from:to])
	m.own(h).terms = with(x.terms, path, slices.Delete(slices.Clone(l), from, to))
	return m.hold(&expression{terms: part}), api.OK
}

// generator does the same things with a store and with the model; its numbers are the same in each run.
type generator struct {
	*rand.Rand
	store *Store
	model *model
}

func newGenerator(t *testing.T, seed int64) *generator {
	g := &generator{Rand: rand.New(rand.NewSource(seed))}
	most := g.Intn(120)
	g.store = made(t, most)
	g.model = &model{most: most, handles: map[int]*expression{}}
	return g
}

func (g *generator) handle() int { return g.Intn(9) }

func (g *generator) expression(depth int) []api.Term {
	var l []api.Term
	for range g.Intn(4) {
		t := api.Term{Kind: []int{api.Char, api.Word, api.EVar, api.Group, api.Call}[g.Intn(5)], Text: "a"}
		if t.Kind == api.Group {
			t.Text = ""
		}
		if t.Kind == api.Group || t.Kind == api.Call {
			if depth == 0 {
				continue
			}
			t.Kids = g.expression(depth - 1)
		}
		l = append(l, t)
	}
	return l
}

// path returns a path of an expression, which often leads to a list.
func (g *generator) path(h int) []int {
	var path []int
	x := g.model.handles[h]
	if x == nil {
		return []int{0}
	}
	for l := x.terms; len(l) > 0 && g.Intn(4) > 0; {
		i := g.Intn(len(l))
		for k := range l {
			if j := (i + k) % len(l); l[j].Kind >= api.Group && l[j].Kind != api.EVar && g.Intn(9) > 0 {
				i = j
				break
			}
		}
		if l[i].Kind < api.Group && g.Intn(6) > 0 {
			break
		}
		path = append(path, i)
		l = l[i].Kids
	}
	if g.Intn(30) == 0 {
		path = append(path, g.Intn(4)-1)
	}
	return path
}

// next does one thing.
func (g *generator) next(t *testing.T) {
	t.Helper()
	h, k := g.handle(), g.handle()
	from, to := g.Intn(6)-1, g.Intn(6)-1
	if g.Intn(3) > 0 && from > to {
		from, to = to, from
	}
	var got, want [2]int
	var e, f api.Errno
	switch g.Intn(8) {
	case 0, 1:
		l := g.expression(3)
		got[0], e = g.store.Put(l)
		want[0], f = g.model.put(l)
	case 2:
		got[0], e = g.store.Copy(h)
		if x := g.model.handles[h]; x != nil {
			want[0] = g.model.hold(x)
		} else {
			f = ErrHandle
		}
	case 3:
		e, f = g.store.Drop(h), g.model.drop(h)
	case 4, 5:
		path := g.path(k)
		e, f = g.store.Move(h, k, path, to), g.model.move(h, k, path, to)
	case 6:
		path := g.path(h)
		got[0], e = g.store.Cut(h, path, from, to)
		want[0], f = g.model.cut(h, path, from, to)
	case 7:
		if g.Intn(4) == 0 {
			got[0], want[0] = g.store.Collect(), g.model.garbage
			g.model.garbage = 0
		}
	}
	if got != want || e != f {
		t.Fatalf("%v, %v, want %v, %v", got, e, want, f)
	}
}

// same compares the store with the model.
func (g *generator) same(t *testing.T) {
	t.Helper()
	used, live := g.store.Used()
	if live != g.model.live() || used != live+g.model.garbage || used > g.model.most || live > used {
		t.Fatalf("Used = %d, %d, want %d, %d", used, live, g.model.live()+g.model.garbage, g.model.live())
	}
	if !g.store.Check() {
		t.Fatal("Check")
	}
	handles := g.store.Handles()
	if len(handles) != len(g.model.handles) || !slices.IsSorted(handles) {
		t.Fatalf("Handles = %v, want those of %v", handles, g.model.handles)
	}
	for _, h := range handles {
		x := g.model.handles[h]
		if x == nil {
			t.Fatalf("the handle %d", h)
		}
		if l, e := g.store.Get(h); e != api.OK || !term.Equal(l, x.terms) {
			t.Fatalf("Get(%d) = %v, %v, want %v", h, l, e, x.terms)
		}
		k := handles[g.Intn(len(handles))]
		if same, e := g.store.Equal(h, k); same != term.Equal(x.terms, g.model.handles[k].terms) || e != api.OK {
			t.Fatalf("Equal(%d, %d) = %v, %v", h, k, same, e)
		}
	}
}

func TestAgainstModel(t *testing.T) {
	for seed := range int64(300) {
		g := newGenerator(t, seed)
		for range 150 {
			g.next(t)
			g.same(t)
		}
		g.store.Collect()
		if used, live := g.store.Used(); used != live {
			t.Fatalf("Used behind Collect = %d, %d", used, live)
		}
	}
}

func TestBack(t *testing.T) {
	g := newGenerator(t, 1)
	for range 500 {
		s := made(t, 1000)
		l := g.expression(4)
		h, _ := s.Put(l)
		g.model.handles[h] = &expression{terms: l}
		path := g.path(h)
		part, ok := listAt(l, path)
		if !ok {
			continue
		}
		if g.Intn(2) == 0 {
			h = copied(t, s, h)
		}
		from := g.Intn(len(part) + 1)
		to := from + g.Intn(len(part)-from+1)
		k, e := s.Cut(h, path, from, to)
		cut, _ := s.Get(k)
		if e != api.OK || !term.Equal(cut, part[from:to]) {
			t.Fatalf("Cut = %v, %v", cut, e)
		}
		if e := s.Move(k, h, path, from); e != api.OK {
			t.Fatalf("Move = %v", e)
		}
		if back, _ := s.Get(h); !term.Equal(back, l) || !s.Check() {
			t.Fatalf("%v, want %v", back, l)
		}
	}
}

// Check finds whatever is linked wrongly.
func TestCheck(t *testing.T) {
	right := func() *Store {
		s := made(t, 30)
		h := put(t, s, "a (b <F>) c")
		copied(t, s, h)
		s.Drop(put(t, s, "x (y) z"))
		s.Drop(put(t, s, "f f f"))
		s.Collect()
		s.Drop(put(t, s, "g (g)"))
		return s
	}
	if !right().Check() {
		t.Fatal("Check of a right store")
	}
	breaks := map[string]func(s *Store){
		"used":                 func(s *Store) { s.used++ },
		"live":                 func(s *Store) { s.live--; s.used-- },
		"both":                 func(s *Store) { s.live++ },
		"least":                func(s *Store) { s.least = 9 },
		"handles":              func(s *Store) { s.handles[0].handles++ },
		"a lost handle":        func(s *Store) { s.handles = s.handles[:1] },
		"garbage":              func(s *Store) { s.garbage = nil },
		"garbage held":         func(s *Store) { s.garbage[0].handles = 1 },
		"garbage twice":        func(s *Store) { s.garbage = append(s.garbage, s.garbage[0]) },
		"size":                 func(s *Store) { s.handles[0].size-- },
		"the first cell":       func(s *Store) { s.handles[0].span[0] = s.cells[s.handles[0].span[0]].next },
		"the last cell":        func(s *Store) { s.handles[0].span[1] = s.cells[s.handles[0].span[1]].prev },
		"no last cell":         func(s *Store) { s.handles[0].span[1] = 0 },
		"free":                 func(s *Store) { s.free = 0 },
		"a free cell used":     func(s *Store) { s.free = 1 },
		"more cells than most": func(s *Store) { s.most = 3 },
	}
	for at := 1; at < len(right().cells); at++ {
		name := string(rune('A' + at))
		breaks[name+" next"] = func(s *Store) { s.cells[at].next += 2 }
		breaks[name+" next far"] = func(s *Store) { s.cells[at].next = 99 }
		breaks[name+" next none"] = func(s *Store) { s.cells[at].next = -1 }
		if right().cells[at].kind != 0 { // a free cell has nothing but what is next
			breaks[name+" prev"] = func(s *Store) { s.cells[at].prev++ }
			breaks[name+" partner"] = func(s *Store) { s.cells[at].partner++ }
		}
		if right().cells[at].opens() {
			breaks[name+" open"] = func(s *Store) { s.cells[at].kind = api.Word }
		}
		if right().cells[at].closes() {
			breaks[name+" closed"] = func(s *Store) { s.cells[at].kind = api.Word }
		}
	}
	for name, do := range breaks {
		s := right()
		if do(s); s.Check() {
			t.Errorf("Check of a store with a wrong %s", name)
		}
	}
}
