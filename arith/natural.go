package arith

import (
	"cmp"
	"math/bits"
	"slices"

	"chiasmus/api"
)

const (
	radix = 10000
	width = 4                     // decimal digits of a limb
	limbs = api.MaxDigits / width // of the longest numbers
)

// natural is an integer from 0 on: its digits to the radix, called limbs, the lowest one first, without zeros at the end.
type natural []int

// wide has room for the limbs of a product.
type wide [2 * limbs]int

func (x natural) isZero() bool { return len(x) == 0 }

// tooLarge reports whether an integer has more digits than a number may have.
func (x natural) tooLarge() bool { return len(x) > limbs }

// trimmed returns the limbs without zeros at the end.
func (x natural) trimmed() natural {
	for len(x) > 0 && x[len(x)-1] == 0 {
		x = x[:len(x)-1]
	}
	return x
}

// reversed returns the elements of a list from the last one to the first one.
func reversed[T any](l []T) []T {
	out := slices.Clone(l)
	slices.Reverse(out)
	return out
}

// at returns a limb, which is 0 beyond both ends.
func (x natural) at(i int) int {
	if i < 0 || i >= len(x) {
		return 0
	}
	return x[i]
}

func (x natural) compare(y natural) int {
	if c := cmp.Compare(len(x), len(y)); c != 0 {
		return c
	}
	for i := len(x) - 1; i >= 0; i-- {
		if c := cmp.Compare(x[i], y[i]); c != 0 {
			return c
		}
	}
	return 0
}

func (x natural) plus(y natural) natural {
	var sum natural
	carry := 0
	for i := range max(len(x), len(y)) {
		d := x.at(i) + y.at(i) + carry
		sum = append(sum, d%radix)
		carry = d / radix
	}
	return append(sum, carry).trimmed()
}

// less returns the difference to an integer that is not greater.
func (x natural) less(y natural) natural {
	var rest natural
	borrow := 0
	for i := range x {
		d := x[i] - y.at(i) - borrow
		borrow = 0
		if d < 0 {
			d += radix
			borrow = 1
		}
		rest = append(rest, d)
	}
	return rest.trimmed()
}

// timesSmall returns the product with a factor below the radix, and a number below it added.
func (x natural) timesSmall(factor, add int) natural {
	var product natural
	carry := add
	for _, limb := range x {
		d := limb*factor + carry
		product = append(product, d%radix)
		carry = d / radix
	}
	return append(product, carry).trimmed()
}

// times returns the product of two integers, neither of which is too large.
func (x natural) times(y natural) natural {
	var sum wide
	for i, a := range x {
		carry := 0
		for j, b := range y {
			d := sum[i+j] + a*b + carry
			sum[i+j] = d % radix
			carry = d / radix
		}
		sum[i+len(y)] = carry
	}
	return slices.Clone(natural(sum[:]).trimmed())
}

// power returns a power of an integer that is not too large; false, if the power is.
func (x natural) power(n int) (natural, bool) {
	p := natural{1}
	// The exponent grows bit by bit, so that no power on the way is greater than the last one.
	for i := bits.Len(uint(n)) - 1; i >= 0; i-- {
		p = p.times(p)
		if n>>i&1 == 1 && !p.tooLarge() {
			p = p.times(x)
		}
		if p.tooLarge() {
			return nil, false
		}
	}
	return p, true
}

// dividedBySmall returns the quotient and the remainder of a division by a number from 1 to below the radix.
func (x natural) dividedBySmall(by int) (natural, int) {
	q := make(natural, len(x))
	rest := 0
	for i := len(x) - 1; i >= 0; i-- {
		rest = rest*radix + x[i]
		q[i] = rest / by
		rest %= by
	}
	return q.trimmed(), rest
}

// divided returns the quotient and the remainder of a division by an integer that is not 0.
func (x natural) divided(y natural) (natural, natural) {
	steps := max(0, len(x)-len(y)+1)
	q := make(natural, steps)
	rest := slices.Clone(x[steps:]) // shorter than y, and so less
	for i := steps - 1; i >= 0; i-- {
		rest = append(natural{x[i]}, rest...).trimmed()
		q[i] = rest.estimate(y)
		rest = rest.less(y.timesSmall(q[i], 0))
		for rest.compare(y) >= 0 {
			rest = rest.less(y)
			q[i]++
		}
	}
	return q.trimmed(), rest
}

// estimate returns a number that is at most the quotient, which is below the radix, and near to it:
// it divides the highest limbs, where it takes those of the divisor too large.
func (x natural) estimate(y natural) int {
	n := len(y)
	high := (x.at(n)*radix+x.at(n-1))*radix + x.at(n-2)
	return high / (y.at(n-1)*radix + y.at(n-2) + 1)
}

// tenTo returns a power of ten.
func tenTo(n int) natural {
	x := make(natural, n/width)
	top := 1
	for range n % width {
		top *= 10
	}
	return append(x, top)
}

// greatest returns the greatest integer below one that does not fit that fits; 0 fits.
func greatest(above natural, fits func(natural) bool) natural {
	var low natural
	for {
		middle, _ := low.plus(above).dividedBySmall(2)
		if middle.compare(low) == 0 {
			return low
		}
		if fits(middle) {
			low = middle
		} else {
			above = middle
		}
	}
}
