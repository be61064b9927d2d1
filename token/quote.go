package token

import (
	"strings"

	"chiasmus/api"
)

// escapes returns the bytes that a backslash and another byte mean between two marks; \x is not among them.
func escapes(mark byte) map[byte]byte {
	if mark == '"' {
		return map[byte]byte{'\\': '\\', '"': '"'}
	}
	return map[byte]byte{'\\': '\\', '\'': '\'', 'n': '\n', 't': '\t'}
}

// plain reports whether a byte may be in a word, and in a quotation.
func plain(c byte) bool { return 32 <= c && c <= 126 }

// unquote returns the bytes that a text up to the next mark means, and the offset behind this mark;
// -1, if there is none, or a byte or an escape ahead of it is not permitted.
func unquote(s string, mark byte) (string, int) {
	var b []byte
	meant := escapes(mark)
	for i := 0; i < len(s); {
		c, n := s[i], 1
		if c == mark {
			return string(b), i + 1
		}
		if c == '\\' {
			c, n = escape(s[i+1:], mark, meant)
		} else if !plain(c) {
			n = 0
		}
		if n == 0 {
			return "", -1
		}
		b = append(b, c)
		i += n
	}
	return "", -1
}

// escape returns the byte that a backslash ahead of a text means, and the length of both, 0 for none.
func escape(s string, mark byte, meant map[byte]byte) (byte, int) {
	if s == "" {
		return 0, 0
	}
	if c, ok := meant[s[0]]; ok {
		return c, 2
	}
	if mark != '\'' || s[0] != 'x' || len(s) < 3 {
		return 0, 0
	}
	high, low := hex(s[1]), hex(s[2])
	if high < 0 || low < 0 {
		return 0, 0
	}
	return byte(high<<4 | low), 4
}

// hex returns the value of a hexadecimal digit, -1 for another byte.
func hex(c byte) int {
	i := strings.IndexByte("0123456789abcdefABCDEF", c)
	if i >= 16 {
		i -= 6
	}
	return i
}

// Write returns the canonical text of a token.
func Write(t Token) (string, api.Errno) {
	if e := Check(t); e != api.OK {
		return "", e
	}
	switch t.Kind {
	case Chars:
		return enquote(t.Text, '\''), api.OK
	case Quoted:
		return enquote(t.Text, '"'), api.OK
	}
	return t.Text, api.OK
}

// enquote returns bytes as they are written between two marks.
func enquote(s string, mark byte) string {
	const digits = "0123456789abcdef"
	letters := map[byte]byte{}
	for letter, c := range escapes(mark) {
		letters[c] = letter
	}
	b := []byte{mark}
	for i := range len(s) {
		c := s[i]
		if letter, ok := letters[c]; ok {
			b = append(b, '\\', letter)
		} else if plain(c) {
			b = append(b, c)
		} else {
			b = append(b, '\\', 'x', digits[c>>4], digits[c&15])
		}
	}
	return string(append(b, mark))
}
