package term

import (
	"strings"

	"chiasmus/api"
)

// Text returns the text of a result expression.
func Text(l []api.Term) (string, api.Errno) {
	if e := Result(l); e != api.OK {
		return "", e
	}
	var b strings.Builder
	writeItems(&b, l)
	if b.Len() > api.MaxSource {
		return "", api.ErrLarge
	}
	return b.String(), api.OK
}

func writeItems(b *strings.Builder, l []api.Term) {
	for i := 0; i < len(l); i++ {
		if i > 0 {
			b.WriteByte(' ')
		}
		if l[i].Kind != api.Char {
			writeItem(b, l[i])
			continue
		}
		b.WriteByte('\'')
		writeChar(b, l[i].Text[0])
		for i+1 < len(l) && l[i+1].Kind == api.Char {
			i++
			writeChar(b, l[i].Text[0])
		}
		b.WriteByte('\'')
	}
}

// writeItem writes a term that is not a Char.
func writeItem(b *strings.Builder, t api.Term) {
	switch t.Kind {
	case api.Word:
		writeWord(b, t.Text)
	case api.Number:
		b.WriteString(t.Text)
	case api.Group:
		b.WriteByte('(')
		writeItems(b, t.Kids)
		b.WriteByte(')')
	case api.Call:
		b.WriteString("<" + t.Text)
		if len(t.Kids) > 0 {
			b.WriteByte(' ')
		}
		writeItems(b, t.Kids)
		b.WriteByte('>')
	default:
		b.WriteString(Name(t))
	}
}

func writeChar(b *strings.Builder, c byte) {
	const digits = "0123456789abcdef"
	switch {
	case c == '\n':
		b.WriteString(`\n`)
	case c == '\t':
		b.WriteString(`\t`)
	case c == '\\', c == '\'':
		b.WriteByte('\\')
		b.WriteByte(c)
	case is(c, plain):
		b.WriteByte(c)
	default:
		b.WriteString(`\x`)
		b.WriteByte(digits[c>>4])
		b.WriteByte(digits[c&15])
	}
}

func writeWord(b *strings.Builder, s string) {
	if identifier(s) == len(s) {
		b.WriteString(s)
		return
	}
	b.WriteByte('"')
	for i := range len(s) {
		if s[i] == '"' || s[i] == '\\' {
			b.WriteByte('\\')
		}
		b.WriteByte(s[i])
	}
	b.WriteByte('"')
}
