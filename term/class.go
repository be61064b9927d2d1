package term

import "chiasmus/api"

// Classes of bytes; a byte may be in several.
const (
	letter = 1 << iota
	digit
	joiner // may stand in an identifier, but not ahead
	blank
	plain // may stand in a quotation as it is
)

// class returns the classes of a byte.
func class(c byte) int {
	var in int
	switch {
	case 'A' <= c && c <= 'Z', 'a' <= c && c <= 'z':
		in = letter
	case '0' <= c && c <= '9':
		in = digit
	case c == '-', c == '_':
		in = joiner
	case c == ' ', c == '\t', c == '\n', c == '\r':
		in = blank
	}
	if 32 <= c && c <= 126 {
		in |= plain
	}
	return in
}

// is reports whether a byte is in one of some classes.
func is(c byte, classes int) bool { return class(c)&classes != 0 }

// span returns how many bytes at the beginning of a text are in one of some classes.
func span(s string, classes int) int {
	for i := range len(s) {
		if !is(s[i], classes) {
			return i
		}
	}
	return len(s)
}

// identifier returns the length of the longest identifier at the beginning of a text.
func identifier(s string) int {
	if s == "" || !is(s[0], letter) {
		return 0
	}
	return span(s, letter|digit|joiner)
}

// right reports whether a term is right by itself.
func right(t api.Term) bool {
	if t.Kind != api.Group && t.Kind != api.Call && len(t.Kids) > 0 {
		return false
	}
	switch t.Kind {
	case api.Char:
		return len(t.Text) == 1
	case api.Word:
		return isWord(t.Text)
	case api.Number:
		return isNumber(t.Text)
	case api.Group:
		return t.Text == ""
	case api.SVar, api.TVar, api.EVar:
		return isVariableText(t.Text)
	case api.Call:
		return isFunctionName(t.Text)
	}
	return false
}

// sized reports whether a text has at least one and at most limit bytes.
func sized(s string, limit int) bool { return 1 <= len(s) && len(s) <= limit }

func isWord(s string) bool { return sized(s, api.MaxWord) && span(s, plain) == len(s) }

func isNumber(s string) bool {
	if s == "0" {
		return true
	}
	if s != "" && s[0] == '-' {
		s = s[1:]
	}
	return sized(s, api.MaxDigits) && span(s, digit) == len(s) && s[0] != '0'
}

func isVariableText(s string) bool {
	return sized(s, api.MaxName) && span(s, letter|digit) == len(s)
}

func isFunctionName(s string) bool { return sized(s, api.MaxName) && identifier(s) == len(s) }
