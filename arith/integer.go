package arith

import (
	"strconv"
	"strings"

	"chiasmus/api"
)

// integer is a number with its sign; 0 has no minus.
type integer struct {
	minus bool
	size  natural
}

func signed(minus bool, size natural) integer { return integer{minus && !size.isZero(), size} }

// read returns the numbers with some texts, or api.ErrForm, if one is none.
func read(texts ...string) ([]integer, api.Errno) {
	var l []integer
	for _, s := range texts {
		if !Valid(s) {
			return nil, api.ErrForm
		}
		rest, minus := strings.CutPrefix(s, "-")
		l = append(l, signed(minus, naturalOf(rest)))
	}
	return l, api.OK
}

// naturalOf returns the number with some decimal digits.
func naturalOf(s string) natural {
	var x natural
	for end := len(s); end > 0; end -= width {
		limb, _ := strconv.Atoi(s[max(0, end-width):end])
		x = append(x, limb)
	}
	return x.trimmed()
}

// digits returns the text of an integer of any size.
func (x integer) digits() string {
	if x.size.isZero() {
		return "0"
	}
	var b strings.Builder
	if x.minus {
		b.WriteByte('-')
	}
	for i, limb := range reversed(x.size) {
		s := strconv.Itoa(limb)
		if i > 0 {
			b.WriteString(strings.Repeat("0", width-len(s)))
		}
		b.WriteString(s)
	}
	return b.String()
}

// text returns the number of an integer, or api.ErrLarge, if it has none.
func (x integer) text() (string, api.Errno) {
	if x.size.tooLarge() {
		return "", api.ErrLarge
	}
	return x.digits(), api.OK
}

func (x integer) negated() integer { return signed(!x.minus, x.size) }

func (x integer) compare(y integer) int {
	switch {
	case x.minus && !y.minus:
		return -1
	case !x.minus && y.minus:
		return 1
	case x.minus:
		return y.size.compare(x.size)
	}
	return x.size.compare(y.size)
}

func (x integer) plus(y integer) integer {
	if x.minus == y.minus {
		return signed(x.minus, x.size.plus(y.size))
	}
	if x.size.compare(y.size) < 0 {
		return signed(y.minus, y.size.less(x.size))
	}
	return signed(x.minus, x.size.less(y.size))
}
