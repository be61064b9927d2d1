package rope

import (
	"math"
	"slices"
	"strings"
	"testing"
)

// letters returns the rope of the bytes of a text.
func letters(s string) Rope[byte] { return Of([]byte(s)) }

func text(r Rope[byte]) string { return string(r.List()) }

// numbers returns the list from 0 to n - 1.
func numbers(n int) []int {
	l := make([]int, n)
	for i := range l {
		l[i] = i
	}
	return l
}

func same(a, b int) bool { return a == b }

// bound returns the greatest depth of a rope with so many elements.
func bound(n int) int { return int(2 * math.Log2(float64(n)+1)) }

// right checks the tree of a rope: its sizes, its depths, and that they differ by at most 1 beside each other.
func right[T any](t *testing.T, n *node[T]) {
	t.Helper()
	if n == nil {
		return
	}
	if n.isLeaf() {
		if n.size < 1 || n.size > width || n.depth != 1 || n.left != nil || n.right != nil {
			t.Fatalf("a leaf with %d elements and the depth %d", n.size, n.depth)
		}
		return
	}
	if n.size != n.left.size+n.right.size || n.depth != max(n.left.depth, n.right.depth)+1 {
		t.Fatalf("a node of the size %d above %d and %d, of the depth %d above %d and %d", n.size, n.left.size, n.right.size, n.depth, n.left.depth, n.right.depth)
	}
	if d := n.left.depth - n.right.depth; d < -1 || d > 1 {
		t.Fatalf("depths %d and %d beside each other", n.left.depth, n.right.depth)
	}
	right(t, n.left)
	right(t, n.right)
}

// balanced checks the depth of a rope.
func balanced[T any](t *testing.T, r Rope[T]) {
	t.Helper()
	n, d := r.Len(), r.Depth()
	if d > bound(n) || n > 0 && 16<<(d-1) < n || n == 0 && d != 0 {
		t.Fatalf("Depth of %d elements = %d", n, d)
	}
	right(t, r.root)
}

func TestExamples(t *testing.T) {
	r := letters("abcd")
	if s := text(r.Replace(1, 3, letters("x"))); s != "axd" {
		t.Errorf("Replace = %q", s)
	}
	if a, b := r.Split(9); text(a) != "abcd" || b.Len() != 0 || b.Depth() != 0 {
		t.Errorf("Split(9) = %q, %q", text(a), text(b))
	}
	if d := Of(numbers(1000)).Join(Of(numbers(1000))).Depth(); d > 21 {
		t.Errorf("Depth = %d", d)
	}
}

func TestEmpty(t *testing.T) {
	var zero Rope[int]
	a, b := zero.Split(3)
	for _, r := range []Rope[int]{zero, Of[int](nil), Of([]int{}), zero.Join(zero), a, b, zero.Part(-1, 5), zero.Replace(2, 1, zero), Map(zero, func(int) int { return 1 })} {
		if _, ok := r.At(0); r.Len() != 0 || r.Depth() != 0 || len(r.List()) != 0 || ok {
			t.Errorf("an empty rope with %d elements, the depth %d, %v", r.Len(), r.Depth(), r.List())
		}
		for range r.All() {
			t.Error("All of an empty rope")
		}
		for range r.Back() {
			t.Error("Back of an empty rope")
		}
	}
	if l := Of([]int{7}).Join(zero).List(); !slices.Equal(l, []int{7}) {
		t.Errorf("Join with the empty rope: %v", l)
	}
	if l := zero.Join(Of([]int{7})).List(); !slices.Equal(l, []int{7}) {
		t.Errorf("Join of the empty rope: %v", l)
	}
	if l := zero.Replace(-3, 9, Of([]int{7})).List(); !slices.Equal(l, []int{7}) {
		t.Errorf("Replace in the empty rope: %v", l)
	}
}

func TestAt(t *testing.T) {
	r := Of(numbers(100))
	for i := -3; i < 103; i++ {
		x, ok := r.At(i)
		if ok != (0 <= i && i < 100) || ok && x != i || !ok && x != 0 {
			t.Errorf("At(%d) = %d, %v", i, x, ok)
		}
	}
	for _, i := range []int{math.MinInt, math.MaxInt} {
		if x, ok := r.At(i); ok || x != 0 {
			t.Errorf("At(%d) = %d, %v", i, x, ok)
		}
	}
}

func TestParts(t *testing.T) {
	r := letters("abcdef")
	for _, c := range []struct {
		from, to       int
		part, replaced string
	}{
		{0, 6, "abcdef", "xy"},
		{2, 4, "cd", "abxyef"},
		{2, 2, "", "abxycdef"},
		{4, 2, "", "abcdxyef"},
		{-5, 2, "ab", "xycdef"},
		{-5, -2, "", "xyabcdef"},
		{3, -2, "", "abcxydef"},
		{5, 100, "f", "abcdexy"},
		{6, 6, "", "abcdefxy"},
		{100, 200, "", "abcdefxy"},
		{100, 2, "", "abcdefxy"},
		{math.MinInt, math.MaxInt, "abcdef", "xy"},
		{math.MaxInt, math.MinInt, "", "abcdefxy"},
	} {
		if s := text(r.Part(c.from, c.to)); s != c.part {
			t.Errorf("Part(%d, %d) = %q, want %q", c.from, c.to, s, c.part)
		}
		if s := text(r.Replace(c.from, c.to, letters("xy"))); s != c.replaced {
			t.Errorf("Replace(%d, %d) = %q, want %q", c.from, c.to, s, c.replaced)
		}
	}
	for n, want := range map[int]string{math.MinInt: "|abcdef", -1: "|abcdef", 0: "|abcdef", 1: "a|bcdef", 5: "abcde|f", 6: "abcdef|", 7: "abcdef|", math.MaxInt: "abcdef|"} {
		if a, b := r.Split(n); text(a)+"|"+text(b) != want {
			t.Errorf("Split(%d) = %q, %q, want %q", n, text(a), text(b), want)
		}
	}
}

func TestWalks(t *testing.T) {
	for _, n := range []int{1, 2, 15, 16, 17, 33, 500} {
		r := Of(numbers(n / 3)).Join(Of(numbers(n)[n/3:]))
		next := 0
		for i, x := range r.All() {
			if i != next || x != i {
				t.Fatalf("All of %d elements: %d, %d, want %d", n, i, x, next)
			}
			next++
		}
		if next != n {
			t.Errorf("All of %d elements has %d", n, next)
		}
		for i, x := range r.Back() {
			next--
			if i != next || x != i {
				t.Fatalf("Back of %d elements: %d, %d, want %d", n, i, x, next)
			}
		}
		if next != 0 {
			t.Errorf("Back of %d elements ends at %d", n, next)
		}
	}
}

func TestWalksStop(t *testing.T) {
	r := Of(numbers(100))
	for stop := range 100 {
		seen := 0
		r.All()(func(i, _ int) bool {
			seen++
			return i < stop
		})
		if seen != stop+1 {
			t.Errorf("All that stops at %d calls %d times", stop, seen)
		}
		seen = 0
		r.Back()(func(i, _ int) bool {
			seen++
			return i > stop
		})
		if seen != 100-stop {
			t.Errorf("Back that stops at %d calls %d times", stop, seen)
		}
	}
}

func TestEqual(t *testing.T) {
	r := Of(numbers(50))
	other := Of(numbers(20)).Join(Of(numbers(50)[20:]))
	if !Equal(r, other, same) || !Equal(Rope[int]{}, Rope[int]{}, same) {
		t.Error("equal ropes are not")
	}
	if Equal(r, other.Replace(30, 31, Of([]int{0})), same) {
		t.Error("ropes that differ are equal")
	}
	asked := 0
	count := func(a, b int) bool {
		asked++
		return a == b
	}
	if Equal(r, other.Part(0, 49), count) || Equal(Rope[int]{}, r, count) || asked != 0 {
		t.Errorf("ropes of different lengths are equal, or %d elements were compared", asked)
	}
	if Equal(r, r.Replace(30, 31, Of([]int{0})), count) || asked != 31 {
		t.Errorf("ropes that differ at 30 are equal, or %d elements were compared", asked)
	}
	asked = 0
	if !Equal(r, r, count) || asked != 50 {
		t.Errorf("a rope is not itself, or %d elements were compared", asked)
	}
	if Equal(r, r, func(a, b int) bool { return false }) {
		t.Error("a rope is itself against same")
	}
	first := []int{}
	Equal(r, Map(r, func(i int) int { return -i }), func(a, b int) bool {
		first = append(first, a, b)
		return a < 2
	})
	if !slices.Equal(first, []int{0, 0, 1, -1, 2, -2}) {
		t.Errorf("Equal compares %v", first)
	}
}

func TestMap(t *testing.T) {
	r := Of(numbers(40)).Join(Of(numbers(3)))
	var asked []int
	s := Map(r, func(i int) string {
		asked = append(asked, i)
		return strings.Repeat("x", i)
	})
	if !slices.Equal(asked, r.List()) {
		t.Errorf("Map asks for %v", asked)
	}
	if s.Len() != 43 {
		t.Errorf("Map returns %d elements", s.Len())
	}
	for i, x := range s.All() {
		if n, _ := r.At(i); len(x) != n {
			t.Errorf("Map has %q at %d", x, i)
		}
	}
	balanced(t, s)
}

// A function that is nil, or that panics, is an argument like others.
func TestFunctionsThatFail(t *testing.T) {
	r := Of(numbers(20))
	bad := func(i int) int {
		if i == 17 {
			panic("17")
		}
		return i
	}
	if Equal(r, r, nil) || Equal(r, r, func(a, b int) bool { return bad(a) == b }) {
		t.Error("Equal by no function")
	}
	if !Equal(Rope[int]{}, Rope[int]{}, nil) {
		t.Error("Equal of empty ropes by no function")
	}
	if m := Map[int, int](r, nil); m.Len() != 0 || m.Depth() != 0 {
		t.Errorf("Map by no function: %v", m.List())
	}
	if m := Map(r, bad); m.Len() != 0 || m.Depth() != 0 {
		t.Errorf("Map by a function that panics: %v", m.List())
	}
	r.All()(nil)
	r.Back()(nil)
}

// What panics in a walk is the walker's.
func TestPanicInWalk(t *testing.T) {
	defer func() {
		if recover() != "here" {
			t.Error("a panic in a walk was lost")
		}
	}()
	for range Of(numbers(20)).All() {
		panic("here")
	}
}
