package arith_test

import (
	"math"
	"math/big"
	"slices"
	"strconv"
	"strings"
	"testing"

	"chiasmus/api"
	"chiasmus/arith"
)

var (
	long    = strings.Repeat
	nines   = long("9", 500) // the greatest number
	tens    = "1" + long("0", 499)
	halfway = "5" + long("0", 499)
)

// noNumbers are texts that are no numbers.
func noNumbers() []string {
	return []string{"", "-", "-0", "007", "00", "-01", "+1", "1 ", " 1", "1a", "a", "1.0", "--1", "1-", "0x1", "1_0", "\x001", "１", "-" + long("1", 501), long("9", 501)}
}

func TestCodes(t *testing.T) {
	if arith.ErrZero != 100 || arith.ErrNegative != 101 {
		t.Errorf("the codes are %d, %d", int(arith.ErrZero), int(arith.ErrNegative))
	}
}

func TestValid(t *testing.T) {
	for _, s := range []string{"0", "1", "9", "-1", "10", "-10", "123456789", nines, "-" + nines, tens} {
		if !arith.Valid(s) {
			t.Errorf("%q is a number", s)
		}
	}
	for _, s := range noNumbers() {
		if arith.Valid(s) {
			t.Errorf("%q is no number", s)
		}
	}
}

// TestForm gives each function what is no number.
func TestForm(t *testing.T) {
	for _, s := range noNumbers() {
		for _, pair := range [][2]string{{s, "0"}, {"0", s}, {s, s}} {
			a, b := pair[0], pair[1]
			if n, e := arith.Compare(a, b); n != 0 || e != api.ErrForm {
				t.Errorf("Compare(%q, %q) = %d, %v", a, b, n, e)
			}
			for name, f := range map[string]func(a, b string) (string, api.Errno){"Add": arith.Add, "Sub": arith.Sub, "Mul": arith.Mul, "Gcd": arith.Gcd} {
				if r, e := f(a, b); r != "" || e != api.ErrForm {
					t.Errorf("%s(%q, %q) = %q, %v", name, a, b, r, e)
				}
			}
			if q, r, e := arith.Divmod(a, b); q != "" || r != "" || e != api.ErrForm {
				t.Errorf("Divmod(%q, %q) = %q, %q, %v", a, b, q, r, e)
			}
		}
		if r, e := arith.Neg(s); r != "" || e != api.ErrForm {
			t.Errorf("Neg(%q) = %q, %v", s, r, e)
		}
		if r, e := arith.Power(s, -1); r != "" || e != api.ErrForm {
			t.Errorf("Power(%q) = %q, %v", s, r, e)
		}
		if r, e := arith.Root(s, 0); r != "" || e != api.ErrForm {
			t.Errorf("Root(%q) = %q, %v", s, r, e)
		}
		if l, e := arith.Digits(s, 1); len(l) != 0 || e != api.ErrForm {
			t.Errorf("Digits(%q) = %v, %v", s, l, e)
		}
		if n, e := arith.Int(s); n != 0 || e != api.ErrForm {
			t.Errorf("Int(%q) = %d, %v", s, n, e)
		}
	}
}

func TestCompare(t *testing.T) {
	ascending := []string{"-" + nines, "-" + tens, "-10000", "-9999", "-10", "-9", "-1", "0", "1", "9", "10", "9999", "10000", "10001", "19999", "20000", tens, halfway, nines}
	for i, a := range ascending {
		for j, b := range ascending {
			want := 0
			if i < j {
				want = -1
			} else if i > j {
				want = 1
			}
			if n, e := arith.Compare(a, b); n != want || e != api.OK {
				t.Errorf("Compare(%s, %s) = %d, %v", a, b, n, e)
			}
		}
	}
}

func TestNeg(t *testing.T) {
	for a, want := range map[string]string{"0": "0", "1": "-1", "-1": "1", "-10000": "10000", nines: "-" + nines, "-" + nines: nines} {
		if r, e := arith.Neg(a); r != want || e != api.OK {
			t.Errorf("Neg(%s) = %s, %v", a, r, e)
		}
	}
}

type binaryCase struct {
	a, b, want string
	e          api.Errno
}

func checkBinary(t *testing.T, name string, f func(a, b string) (string, api.Errno), l []binaryCase) {
	t.Helper()
	for _, c := range l {
		if r, e := f(c.a, c.b); r != c.want || e != c.e {
			t.Errorf("%s(%s, %s) = %s, %v, want %s, %v", name, c.a, c.b, r, e, c.want, c.e)
		}
	}
}

func TestAddAndSub(t *testing.T) {
	checkBinary(t, "Add", arith.Add, []binaryCase{
		{"0", "0", "0", 0}, {"1", "-1", "0", 0}, {"-1", "-1", "-2", 0}, {"9999", "1", "10000", 0}, {"10000", "-1", "9999", 0},
		{"-10000", "1", "-9999", 0}, {"99999999", "1", "100000000", 0}, {"1", "-100000000", "-99999999", 0}, {"5", "-7", "-2", 0},
		{"-5", "7", "2", 0}, {nines, "0", nines, 0}, {nines, "-" + nines, "0", 0}, {nines, "1", "", api.ErrLarge}, {"-" + nines, "-1", "", api.ErrLarge},
		{nines, "-1", long("9", 499) + "8", 0}, {halfway, halfway, "", api.ErrLarge}, {nines, nines, "", api.ErrLarge},
	})
	checkBinary(t, "Sub", arith.Sub, []binaryCase{
		{"0", "0", "0", 0}, {"1", "1", "0", 0}, {"1", "-1", "2", 0}, {"-1", "1", "-2", 0}, {"10000", "1", "9999", 0}, {"1", "10000", "-9999", 0},
		{"0", "5", "-5", 0}, {"-5", "-5", "0", 0}, {nines, "-1", "", api.ErrLarge}, {"-" + nines, "1", "", api.ErrLarge}, {nines, nines, "0", 0},
		{"-" + nines, "-" + nines, "0", 0}, {"0", nines, "-" + nines, 0}, {tens, "1", long("9", 499), 0},
	})
}

func TestMul(t *testing.T) {
	checkBinary(t, "Mul", arith.Mul, []binaryCase{
		{"0", "-5", "0", 0}, {"-5", "0", "0", 0}, {nines, "0", "0", 0}, {"-3", "4", "-12", 0}, {"-3", "-4", "12", 0}, {"9999", "9999", "99980001", 0},
		{"10000", "10000", "100000000", 0}, {nines, "1", nines, 0}, {nines, "-1", "-" + nines, 0}, {nines, "2", "", api.ErrLarge},
		{"1" + long("0", 250), "1" + long("0", 249), tens, 0}, {"1" + long("0", 250), "-1" + long("0", 250), "", api.ErrLarge},
		{"2" + long("0", 250), "5" + long("0", 248), tens, 0}, {"2" + long("0", 250), "5" + long("0", 249), "", api.ErrLarge}, {nines, nines, "", api.ErrLarge},
	})
}

func TestDivmod(t *testing.T) {
	for _, c := range []struct {
		a, b, q, r string
		e          api.Errno
	}{
		{"-7", "2", "-3", "-1", 0}, {"7", "2", "3", "1", 0}, {"7", "-2", "-3", "1", 0}, {"-7", "-2", "3", "-1", 0},
		{"0", "5", "0", "0", 0}, {"0", "-5", "0", "0", 0}, {"3", "5", "0", "3", 0}, {"-3", "5", "0", "-3", 0}, {"-3", "-5", "0", "-3", 0}, {"6", "-3", "-2", "0", 0},
		{"5", "5", "1", "0", 0}, {"-6", "3", "-2", "0", 0}, {"0", "0", "", "", arith.ErrZero}, {nines, "0", "", "", arith.ErrZero},
		{nines, "1", nines, "0", 0}, {nines, "-1", "-" + nines, "0", 0}, {nines, nines, "1", "0", 0}, {tens, nines, "0", tens, 0},
		{nines, "9999", "1" + long("0001", 124), "0", 0}, {"100000000", "9999", "10001", "1", 0}, {"99989999", "9999", "9999", "9998", 0},
	} {
		if q, r, e := arith.Divmod(c.a, c.b); q != c.q || r != c.r || e != c.e {
			t.Errorf("Divmod(%s, %s) = %s, %s, %v", c.a, c.b, q, r, e)
		}
	}
}

func TestPower(t *testing.T) {
	for _, c := range []struct {
		a    string
		n    int
		want string
		e    api.Errno
	}{
		{"-2", 10, "1024", 0}, {"-2", 11, "-2048", 0}, {"0", 0, "1", 0}, {"5", 0, "1", 0}, {"-5", 0, "1", 0}, {nines, 0, "1", 0}, {"0", 1, "0", 0},
		{"0", math.MaxInt, "0", 0}, {"1", math.MaxInt, "1", 0}, {"-1", math.MaxInt, "-1", 0}, {"-1", math.MaxInt - 1, "1", 0},
		{"2", math.MaxInt, "", api.ErrLarge}, {"-2", math.MaxInt, "", api.ErrLarge}, {"10", 499, tens, 0}, {"10", 500, "", api.ErrLarge},
		{"-10", 499, "-" + tens, 0}, {"-10", 500, "", api.ErrLarge}, {"2", 1661, "", api.ErrLarge}, {nines, 1, nines, 0}, {"-" + nines, 1, "-" + nines, 0},
		{nines, 2, "", api.ErrLarge}, {nines, 3, "", api.ErrLarge}, {"1" + long("0", 249), 2, "1" + long("0", 498), 0}, {"1" + long("0", 250), 2, "", api.ErrLarge},
		{"2", -1, "", arith.ErrNegative}, {"0", -1, "", arith.ErrNegative}, {"1", math.MinInt, "", arith.ErrNegative},
	} {
		if r, e := arith.Power(c.a, c.n); r != c.want || e != c.e {
			t.Errorf("Power(%s, %d) = %s, %v, want %s, %v", c.a, c.n, r, e, c.want, c.e)
		}
	}
	if r, e := arith.Power("2", 1660); e != api.OK || r != new(big.Int).Exp(big.NewInt(2), big.NewInt(1660), nil).String() {
		t.Errorf("Power(2, 1660) = %s, %v", r, e)
	}
}

func TestRoot(t *testing.T) {
	for _, c := range []struct {
		a    string
		n    int
		want string
		e    api.Errno
	}{
		{"26", 2, "5", 0}, {"25", 2, "5", 0}, {"24", 2, "4", 0}, {"0", 1, "0", 0}, {"0", 1000, "0", 0}, {"1", 1000, "1", 0}, {"1", 2, "1", 0}, {"2", 2, "1", 0},
		{"3", 2, "1", 0}, {"4", 2, "2", 0}, {"7", 3, "1", 0}, {"8", 3, "2", 0}, {nines, 1, nines, 0}, {nines, 2, long("9", 250), 0}, {nines, 500, "9", 0},
		{nines, 499, "10", 0}, {nines, 1000, "3", 0}, {tens, 499, "10", 0}, {tens, 500, "9", 0}, {"99999999", 2, "9999", 0}, {"100000000", 2, "10000", 0},
		{"5", 0, "", api.ErrRange}, {"5", -1, "", api.ErrRange}, {"5", 1001, "", api.ErrRange}, {"-5", 1001, "", api.ErrRange}, {"-5", math.MinInt, "", api.ErrRange},
		{"-5", 1, "", arith.ErrNegative}, {"-8", 3, "", arith.ErrNegative}, {"-1", 1000, "", arith.ErrNegative},
	} {
		if r, e := arith.Root(c.a, c.n); r != c.want || e != c.e {
			t.Errorf("Root(%s, %d) = %s, %v, want %s, %v", c.a, c.n, r, e, c.want, c.e)
		}
	}
}

func TestGcd(t *testing.T) {
	checkBinary(t, "Gcd", arith.Gcd, []binaryCase{
		{"0", "0", "0", 0}, {"0", "-5", "5", 0}, {"-5", "0", "5", 0}, {"12", "18", "6", 0}, {"-12", "18", "6", 0}, {"12", "-18", "6", 0}, {"-12", "-18", "6", 0},
		{"7", "13", "1", 0}, {nines, nines, nines, 0}, {nines, "0", nines, 0}, {"-" + nines, "9", "9", 0}, {tens, halfway, tens, 0},
	})
}

func TestDigits(t *testing.T) {
	for _, c := range []struct {
		a    string
		base int
		want []int
		e    api.Errno
	}{
		{"255", 16, []int{15, 15}, 0}, {"-255", 16, []int{15, 15}, 0}, {"0", 2, []int{0}, 0}, {"0", 1000, []int{0}, 0}, {"1", 2, []int{1}, 0}, {"2", 2, []int{1, 0}, 0},
		{"10", 10, []int{1, 0}, 0}, {"999", 1000, []int{999}, 0}, {"1000", 1000, []int{1, 0}, 0}, {"-1000999", 1000, []int{1, 0, 999}, 0}, {"10000", 7, []int{4, 1, 1, 0, 4}, 0},
		{"5", 1, nil, api.ErrRange}, {"5", 0, nil, api.ErrRange}, {"5", -2, nil, api.ErrRange}, {"5", 1001, nil, api.ErrRange}, {"5", math.MinInt, nil, api.ErrRange},
	} {
		if l, e := arith.Digits(c.a, c.base); !slices.Equal(l, c.want) || e != c.e {
			t.Errorf("Digits(%s, %d) = %v, %v, want %v, %v", c.a, c.base, l, e, c.want, c.e)
		}
	}
	if l, e := arith.Digits(nines, 2); len(l) != 1661 || e != api.OK {
		t.Errorf("Digits of the greatest number: %d, %v", len(l), e)
	}
}

func TestNumber(t *testing.T) {
	zeros := make([]int, 2001)
	for _, c := range []struct {
		name string
		l    []int
		base int
		want string
		e    api.Errno
	}{
		{"none", nil, 2, "0", 0},
		{"zeros", []int{0, 0, 0}, 10, "0", 0},
		{"the example", []int{15, 15}, 16, "255", 0},
		{"leading zeros", []int{0, 0, 1, 0}, 2, "2", 0},
		{"the greatest base", []int{1, 0, 999}, 1000, "1000999", 0},
		{"as many zeros as may be", zeros[:2000], 2, "0", 0},
		{"too many zeros", zeros, 2, "", api.ErrCount},
		{"a base too small", zeros, 1, "", api.ErrRange},
		{"a base too great", nil, 1001, "", api.ErrRange},
		{"a base below 0", nil, -10, "", api.ErrRange},
		{"too many, also wrong ones", slices.Repeat([]int{7}, 2001), 2, "", api.ErrCount},
		{"a digit that is the base", []int{1, 2}, 2, "", api.ErrRange},
		{"a digit below 0", []int{-1}, 2, "", api.ErrRange},
		{"the least digit", []int{math.MinInt}, 2, "", api.ErrRange},
		{"a wrong digit behind too many", append(slices.Repeat([]int{9}, 501), 10), 10, "", api.ErrRange},
		{"the greatest number", slices.Repeat([]int{9}, 500), 10, nines, 0},
		{"leading zeros of the greatest number", append(make([]int, 1500), slices.Repeat([]int{9}, 500)...), 10, nines, 0},
		{"too large", append([]int{1}, make([]int, 500)...), 10, "", api.ErrLarge},
		{"far too large", slices.Repeat([]int{999}, 2000), 1000, "", api.ErrLarge},
		{"nearly too large", append([]int{99}, slices.Repeat([]int{999}, 166)...), 1000, nines, 0},
		{"just too large", append([]int{100}, make([]int, 166)...), 1000, "", api.ErrLarge},
	} {
		if s, e := arith.Number(c.l, c.base); s != c.want || e != c.e {
			t.Errorf("%s: Number = %s, %v, want %s, %v", c.name, s, e, c.want, c.e)
		}
	}
}

func TestInt(t *testing.T) {
	for _, n := range []int{0, 1, -1, 10, -10, 9999, 10000, 123456789, math.MaxInt32, math.MaxInt, math.MinInt, math.MaxInt - 1, math.MinInt + 1} {
		s := arith.Text(n)
		if m, e := arith.Int(s); s != strconv.Itoa(n) || m != n || e != api.OK {
			t.Errorf("Text(%d) = %s, and Int of it %d, %v", n, s, m, e)
		}
	}
	for _, s := range []string{"9223372036854775808", "-9223372036854775809", nines, "-" + nines} {
		if n, e := arith.Int(s); n != 0 || e != api.ErrLarge {
			t.Errorf("Int(%s) = %d, %v", s, n, e)
		}
	}
}
