package token

import (
	"slices"
	"strings"

	"chiasmus/api"
)

// class is what a byte may begin or continue.
type class uint8

const (
	other class = iota
	blank
	letter
	digit
	joiner // may stand in an identifier, but not ahead
	point
	quote
	sign
	dollar
)

const signs = "()<>{}=,:;"

// classes returns the class of each byte.
func classes() [256]class {
	var of [256]class
	put := func(in class, bytes string) {
		for i := range len(bytes) {
			of[bytes[i]] = in
		}
	}
	put(blank, " \t\n\r")
	for i := range 26 {
		of['A'+i], of['a'+i] = letter, letter
	}
	put(digit, "0123456789")
	put(joiner, "-_")
	put(point, ".")
	put(quote, "'\"")
	put(sign, signs)
	put(dollar, "$")
	return of
}

// span returns how many bytes at the beginning of a text are in one of some classes.
func span(of *[256]class, s string, in ...class) int {
	for i := range len(s) {
		if !slices.Contains(in, of[s[i]]) {
			return i
		}
	}
	return len(s)
}

// sized reports whether a text has at least one and at most limit bytes.
func sized(s string, limit int) bool { return 1 <= len(s) && len(s) <= limit }

// IsName reports whether s is an identifier.
func IsName(s string) bool {
	of := classes()
	return sized(s, api.MaxWord) && of[s[0]] == letter && span(&of, s, letter, digit, joiner) == len(s)
}

// IsWord reports whether s is the text of a word.
func IsWord(s string) bool {
	for i := range len(s) {
		if !plain(s[i]) {
			return false
		}
	}
	return sized(s, api.MaxWord)
}

// IsNumber reports whether s is the text of a number.
func IsNumber(s string) bool {
	if s == "0" {
		return true
	}
	of := classes()
	s = strings.TrimPrefix(s, "-")
	return sized(s, api.MaxDigits) && s[0] != '0' && span(&of, s, digit) == len(s)
}

func isVariable(s string) bool {
	if !isVariableStart(s) {
		return false
	}
	of := classes()
	s = s[2:]
	return sized(s, api.MaxName) && span(&of, s, letter, digit) == len(s)
}

func isVariableStart(s string) bool {
	return len(s) >= 2 && strings.IndexByte("ste", s[0]) >= 0 && s[1] == '.'
}

func isSign(s string) bool { return len(s) == 1 && strings.Contains(signs, s) }

func isKeyword(s string) bool { return s == "$ENTRY" || s == "$EXTERN" }
