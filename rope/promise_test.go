package rope

import (
	"math/rand"
	"slices"
	"testing"
)

// pair is a rope and the list that it has to have.
type pair struct {
	rope Rope[int]
	list []int
}

// check compares a rope with its list.
func (p pair) check(t *testing.T) {
	t.Helper()
	if p.rope.Len() != len(p.list) || !slices.Equal(p.rope.List(), p.list) {
		t.Fatalf("%v, want %v", p.rope.List(), p.list)
	}
	for i := range p.list {
		if x, ok := p.rope.At(i); x != p.list[i] || !ok {
			t.Fatalf("At(%d) = %d, %v, want %d", i, x, ok, p.list[i])
		}
	}
	balanced(t, p.rope)
}

// generator makes ropes out of ropes; its numbers are the same in each run.
type generator struct {
	*rand.Rand
	pairs []pair
}

func newGenerator(seed int64) *generator {
	return &generator{Rand: rand.New(rand.NewSource(seed)), pairs: []pair{{}}}
}

func (g *generator) pair() pair { return g.pairs[g.Intn(len(g.pairs))] }

// index returns an index that may be beyond the ends of a list.
func (g *generator) index(l []int) int { return g.Intn(len(l)+5) - 2 }

// next makes a rope of earlier ones.
func (g *generator) next() pair {
	p, q := g.pair(), g.pair()
	i, k := g.index(p.list), g.index(p.list)
	from := min(max(i, 0), len(p.list))
	to := max(min(max(k, 0), len(p.list)), from)
	switch g.Intn(7) {
	case 0:
		l := make([]int, g.Intn(70))
		for i := range l {
			l[i] = g.Intn(1000)
		}
		return pair{Of(l), l}
	case 1, 2:
		return pair{p.rope.Join(q.rope), slices.Concat(p.list, q.list)}
	case 3:
		a, b := p.rope.Split(i)
		if g.Intn(2) == 0 {
			return pair{a, p.list[:from]}
		}
		return pair{b, p.list[from:]}
	case 4:
		return pair{p.rope.Part(i, k), p.list[from:to]}
	case 5:
		return pair{p.rope.Replace(i, k, q.rope), slices.Concat(p.list[:from], q.list, p.list[to:])}
	}
	l := slices.Clone(p.list)
	for i := range l {
		l[i]++
	}
	return pair{Map(p.rope, func(x int) int { return x + 1 }), l}
}

func TestAgainstLists(t *testing.T) {
	for seed := range int64(60) {
		g := newGenerator(seed)
		for range 80 {
			p := g.next()
			p.check(t)
			if len(p.list) < 3000 {
				g.pairs = append(g.pairs, p)
			}
		}
		for _, p := range g.pairs { // none was changed by what came later
			p.check(t)
		}
	}
}

func TestPersistence(t *testing.T) {
	l := numbers(40)
	r := Of(l)
	for i := range l {
		l[i] = -1
	}
	m := r.List()
	m[3] = -1
	for _, part := range []Rope[int]{r.Part(3, 7), Of([]int{3, 4, 5, 6})} {
		n := part.List()
		n[0] = -1
		n = append(n[:1], 9, 9, 9, 9)
		if !slices.Equal(part.List(), []int{3, 4, 5, 6}) {
			t.Errorf("a list of a part changed it: %v, %v", part.List(), n)
		}
	}
	a, _ := r.Split(3) // a leaf that is not full, and two ropes that go on behind it
	b, c := a.Join(Of([]int{7})), a.Join(Of([]int{8}))
	if !slices.Equal(b.List(), []int{0, 1, 2, 7}) || !slices.Equal(c.List(), []int{0, 1, 2, 8}) || !slices.Equal(a.List(), []int{0, 1, 2}) {
		t.Errorf("%v, %v, %v", a.List(), b.List(), c.List())
	}
	if !slices.Equal(r.List(), numbers(40)) {
		t.Errorf("a list changed a rope: %v", r.List())
	}
	long := make([]int, 5, 100)
	s := Of(long)
	if long = append(long, 1); s.Len() != 5 {
		t.Errorf("a list behind its end changed a rope: %v", long)
	}
}

func TestBalanceOneByOne(t *testing.T) {
	var forth, back, both Rope[int]
	for i := range 3000 {
		one := Of([]int{i})
		forth, back = forth.Join(one), one.Join(back)
		if i%2 == 0 {
			both = both.Join(one)
		} else {
			both = one.Join(both)
		}
		for _, r := range []Rope[int]{forth, back, both} {
			if r.Len() != i+1 || r.Depth() > bound(i+1) {
				t.Fatalf("Depth of %d elements = %d", r.Len(), r.Depth())
			}
		}
	}
	for _, r := range []Rope[int]{forth, back, both} {
		balanced(t, r)
	}
	if !slices.Equal(forth.List(), numbers(3000)) {
		t.Error("elements joined one by one")
	}
	for n := 2999; n > 0; n -= 7 { // leaves with few elements
		forth = forth.Replace(n, n+6, Rope[int]{})
		balanced(t, forth)
	}
}

func TestBalanceOfDifferentDepths(t *testing.T) {
	g := newGenerator(1)
	r := Of(numbers(5000))
	for range 400 {
		n := r.Len()
		i := g.Intn(n + 1)
		a, b := r.Split(i)
		balanced(t, a)
		balanced(t, b)
		j := b.Join(a)
		balanced(t, j)
		r = j.Replace(g.Intn(n), g.Intn(n), Of(numbers(g.Intn(200))))
		if r.Len() < 1000 {
			r = r.Join(Of(numbers(5000)))
		}
		balanced(t, r)
	}
}

func TestBalanceOfLists(t *testing.T) {
	for n := range 700 {
		r := Of(numbers(n))
		balanced(t, r)
		if !slices.Equal(r.List(), numbers(n)) {
			t.Errorf("Of %d elements = %v", n, r.List())
		}
	}
}

func TestPartsOfParts(t *testing.T) {
	g := newGenerator(2)
	for range 500 {
		a, b, c := Of(numbers(g.Intn(60))), Of(numbers(g.Intn(60))), Of(numbers(g.Intn(60)))
		if !Equal(a.Join(b).Join(c), a.Join(b.Join(c)), same) {
			t.Fatal("Join is not associative")
		}
		r := a.Join(b)
		first, rest := r.Split(g.index(r.List()))
		if !Equal(first.Join(rest), r, same) {
			t.Fatal("what Split returns is not the rope")
		}
		n := r.Len()
		from := g.Intn(n + 1)
		to := from + g.Intn(n-from+1)
		i := g.Intn(to - from + 1)
		k := i + g.Intn(to-from-i+1)
		if !Equal(r.Part(from, to).Part(i, k), r.Part(from+i, from+k), same) {
			t.Fatalf("Part(%d, %d) of Part(%d, %d) of %d elements", i, k, from, to, n)
		}
	}
}

func TestSharing(t *testing.T) {
	r := Of(numbers(10))
	for range 40 {
		r = r.Join(r)
	}
	n := 10 << 40
	if r.Len() != n || r.Depth() > bound(n) {
		t.Fatalf("%d elements, the depth %d", r.Len(), r.Depth())
	}
	for _, i := range []int{0, 9, 10, n/2 + 3, n - 1} {
		if x, ok := r.At(i); x != i%10 || !ok {
			t.Errorf("At(%d) = %d, %v", i, x, ok)
		}
	}
	for range 1000 {
		r = r.Replace(n/3, n/3+5, Of([]int{0}))
		n -= 4
	}
	if r.Len() != n || r.Depth() > bound(n) {
		t.Errorf("%d elements, the depth %d", r.Len(), r.Depth())
	}
	if l := r.Part(n/2, n/2+10).List(); len(l) != 10 {
		t.Errorf("a part: %v", l)
	}
	for i, x := range r.Back() {
		if x != 9-(n-1-i) {
			t.Errorf("Back has %d at %d", x, i)
		}
		if i == n-10 {
			break
		}
	}
}
