package arith_test

import (
	"math/big"
	"math/rand"
	"slices"
	"strings"
	"testing"

	"chiasmus/api"
	"chiasmus/arith"
)

// generator makes numbers; its numbers are the same in each run.
type generator struct{ *rand.Rand }

func newGenerator(seed int64) generator { return generator{rand.New(rand.NewSource(seed))} }

// number returns a number of at most so many digits, often one near to a power of ten or of 10000.
func (g generator) number(most int) string {
	n := 1 + g.Intn(most)
	if g.Intn(2) == 0 {
		n = 1 + g.Intn(min(n, 12))
	}
	b := make([]byte, n)
	for i := range b {
		b[i] = byte('0' + g.Intn(10))
	}
	switch g.Intn(6) {
	case 0:
		b = []byte(strings.Repeat("9", n))
	case 1:
		b = []byte("1" + strings.Repeat("0", n-1))
	case 2: // long rows of equal digits
		for i := range b {
			b[i] = "0199"[g.Intn(4)]
		}
	}
	s := strings.TrimLeft(string(b), "0")
	if s == "" {
		return "0"
	}
	if g.Intn(2) == 0 {
		return "-" + s
	}
	return s
}

func bigOf(s string) *big.Int {
	n, _ := new(big.Int).SetString(s, 10)
	return n
}

// numberOf returns the number of an integer, or api.ErrLarge.
func numberOf(n *big.Int) (string, api.Errno) {
	s := n.String()
	if len(strings.TrimPrefix(s, "-")) > 500 {
		return "", api.ErrLarge
	}
	return s, api.OK
}

func TestAgainstBig(t *testing.T) {
	g := newGenerator(1)
	for range 20000 {
		a, b := g.number(500), g.number(500)
		x, y := bigOf(a), bigOf(b)
		check := func(name, s string, e api.Errno, n *big.Int) {
			want, code := numberOf(n)
			if s != want || e != code {
				t.Fatalf("%s of %s and %s = %s, %v, want %s, %v", name, a, b, s, e, want, code)
			}
		}
		s, e := arith.Add(a, b)
		check("Add", s, e, new(big.Int).Add(x, y))
		s, e = arith.Sub(a, b)
		check("Sub", s, e, new(big.Int).Sub(x, y))
		s, e = arith.Mul(a, b)
		check("Mul", s, e, new(big.Int).Mul(x, y))
		s, e = arith.Neg(a)
		check("Neg", s, e, new(big.Int).Neg(x))
		if c, e := arith.Compare(a, b); c != x.Cmp(y) || e != api.OK {
			t.Fatalf("Compare of %s and %s = %d, %v", a, b, c, e)
		}
		if y.Sign() != 0 {
			q, r, e := arith.Divmod(a, b)
			quotient, rest := new(big.Int).QuoRem(x, y, new(big.Int))
			check("Divmod", q, e, quotient)
			check("Divmod", r, e, rest)
		}
	}
}

func TestGcdAgainstBig(t *testing.T) {
	g := newGenerator(2)
	for range 500 {
		a, b := g.number(500), g.number(500)
		want := new(big.Int).GCD(nil, nil, new(big.Int).Abs(bigOf(a)), new(big.Int).Abs(bigOf(b)))
		if s, e := arith.Gcd(a, b); s != want.String() || e != api.OK {
			t.Fatalf("Gcd of %s and %s = %s, %v", a, b, s, e)
		}
	}
}

// computation gives a number, or "large", also if an argument is.
type computation func(a, b string) string

func orLarge(f func(a, b string) (string, api.Errno)) computation {
	return func(a, b string) string {
		s, e := f(a, b)
		if a == "large" || b == "large" || e == api.ErrLarge {
			return "large"
		}
		return s
	}
}

func TestRing(t *testing.T) {
	g := newGenerator(3)
	add, sub, mul := orLarge(arith.Add), orLarge(arith.Sub), orLarge(arith.Mul)
	for range 5000 {
		a, b, c := g.number(240), g.number(240), g.number(240)
		minus, _ := arith.Neg(b)
		for name, pair := range map[string][2]string{
			"a + b is b + a":                   {add(a, b), add(b, a)},
			"a b is b a":                       {mul(a, b), mul(b, a)},
			"(a + b) + c is a + (b + c)":       {add(add(a, b), c), add(a, add(b, c))},
			"a (b + c) is a b + a c":           {mul(a, add(b, c)), add(mul(a, b), mul(a, c))},
			"a - b is the sum of a and Neg b":  {sub(a, b), add(a, minus)},
			"a - b + b is a":                   {add(sub(a, b), b), a},
			"a times 1 is a, a plus 0, also a": {mul(a, "1"), add(a, "0")},
		} {
			if pair[0] != pair[1] || pair[0] == "large" {
				t.Fatalf("%s: %s, %s for %s, %s, %s", name, pair[0], pair[1], a, b, c)
			}
		}
		l, r := mul(mul(a, b), c), mul(a, mul(b, c))
		if l != r && l != "large" && r != "large" {
			t.Fatalf("(a b) c is %s, a (b c) is %s for %s, %s, %s", l, r, a, b, c)
		}
	}
}

func TestDivision(t *testing.T) {
	g := newGenerator(4)
	for range 5000 {
		a, b := g.number(500), g.number(300)
		q, r, e := arith.Divmod(a, b)
		if b == "0" {
			if e != arith.ErrZero {
				t.Fatalf("Divmod(%s, 0) = %v", a, e)
			}
			continue
		}
		product, _ := arith.Mul(q, b)
		back, _ := arith.Add(product, r)
		size, _ := arith.Compare(strings.TrimPrefix(r, "-"), strings.TrimPrefix(b, "-"))
		if back != a || size != -1 || r != "0" && (r[0] == '-') != (a[0] == '-') {
			t.Fatalf("Divmod(%s, %s) = %s, %s", a, b, q, r)
		}
	}
}

func TestPowers(t *testing.T) {
	g := newGenerator(5)
	for range 2000 {
		a := g.number(1 + g.Intn(40))
		m, n := g.Intn(8), g.Intn(8)
		power := func(n int) string {
			s, e := arith.Power(a, n)
			if e == api.ErrLarge {
				return "large"
			}
			return s
		}
		product := orLarge(arith.Mul)(power(m), power(n))
		if both := power(m + n); both != product && (both == "large") == (product == "large") {
			t.Fatalf("Power(%s, %d + %d) = %s, but the product is %s", a, m, n, both, product)
		}
		if want, e := numberOf(new(big.Int).Exp(bigOf(a), big.NewInt(int64(m)), nil)); e == api.OK && power(m) != want || e != api.OK && power(m) != "large" {
			t.Fatalf("Power(%s, %d) = %s, want %s", a, m, power(m), want)
		}
		abs := strings.TrimPrefix(a, "-")
		if p, e := arith.Power(abs, n); n > 0 && e == api.OK {
			if s, e := arith.Root(p, n); s != abs || e != api.OK {
				t.Fatalf("Root of Power(%s, %d) = %s, %v", abs, n, s, e)
			}
		}
	}
}

func TestRoots(t *testing.T) {
	g := newGenerator(6)
	for range 1500 {
		a, n := strings.TrimPrefix(g.number(500), "-"), 1+g.Intn(20)
		if g.Intn(5) == 0 {
			n = 1 + g.Intn(1000)
		}
		root, e := arith.Root(a, n)
		if e != api.OK {
			t.Fatalf("Root(%s, %d) = %v", a, n, e)
		}
		x, exponent := bigOf(root), big.NewInt(int64(n))
		next := new(big.Int).Add(x, big.NewInt(1))
		if x.Exp(x, exponent, nil).Cmp(bigOf(a)) > 0 || next.Exp(next, exponent, nil).Cmp(bigOf(a)) <= 0 {
			t.Fatalf("Root(%s, %d) = %s", a, n, root)
		}
	}
}

func TestPlaces(t *testing.T) {
	g := newGenerator(7)
	for range 1000 {
		a, base := g.number(500), 2+g.Intn(999)
		if g.Intn(3) == 0 {
			base = 2 + g.Intn(9)
		}
		l, e := arith.Digits(a, base)
		if e != api.OK || len(l) == 0 || l[0] == 0 && a != "0" || slices.Min(l) < 0 || slices.Max(l) >= base {
			t.Fatalf("Digits(%s, %d) = %v, %v", a, base, l, e)
		}
		if s, e := arith.Number(append(make([]int, g.Intn(100)), l...), base); s != strings.TrimPrefix(a, "-") || e != api.OK {
			t.Fatalf("Number of Digits(%s, %d) = %s, %v", a, base, s, e)
		}
		n := int(g.Uint64()) >> g.Intn(64)
		if m, e := arith.Int(arith.Text(n)); m != n || e != api.OK {
			t.Fatalf("Int of Text(%d) = %d, %v", n, m, e)
		}
	}
}

func TestNothingIsChanged(t *testing.T) {
	l := []int{1, 2, 3, 4, 5}
	if s, _ := arith.Number(l[:3], 10); s != "123" || !slices.Equal(l, []int{1, 2, 3, 4, 5}) {
		t.Errorf("Number = %s, and the digits are %v", s, l)
	}
}
