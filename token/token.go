// Package token is layer 2: the tokens of program texts. See shared/doc/02-token.md.
package token

import (
	"strings"

	"chiasmus/api"
)

// Codes of layer 2.
const (
	ErrByte    api.Errno = 40 // a byte that begins no token
	ErrQuote   api.Errno = 41 // a quotation that does not end in its line, or has a wrong escape
	ErrComment api.Errno = 42 // a comment that does not end
	ErrLength  api.Errno = 43 // a name, a word or a number that is too long, or a number with a leading zero
	ErrNear    api.Errno = 44 // a token that begins directly behind another one, where a gap is needed
	ErrKeyword api.Errno = 45 // a dollar sign without a keyword
)

// Kinds of tokens.
const (
	Chars  = iota + 1 // Text: the bytes
	Quoted            // a word in double quotes: Text: the word
	Name              // an identifier
	Number
	Variable // Text: "e.x"
	Sign     // one of ( ) < > { } = , : ;
	Keyword  // $ENTRY or $EXTERN
)

// Token is a token; At is the byte offset of its first byte.
type Token struct {
	Kind int
	Text string
	At   int
}

// Scan returns the tokens of a text; with an error, a byte offset.
func Scan(text string) ([]Token, int, api.Errno) {
	var l []Token
	for p, err := range pieces(text) {
		if err != nil {
			at, e := locate(err)
			return nil, at, e
		}
		if !p.comment {
			l = append(l, p.Token)
		}
	}
	return l, 0, api.OK
}

// Check returns the error of a token.
func Check(t Token) api.Errno {
	var ok bool
	switch t.Kind {
	case Chars:
		ok = true
	case Quoted:
		ok = IsWord(t.Text)
	case Name:
		ok = IsName(t.Text)
	case Number:
		ok = IsNumber(t.Text)
	case Variable:
		ok = isVariable(t.Text)
	case Sign:
		ok = isSign(t.Text)
	case Keyword:
		ok = isKeyword(t.Text)
	}
	if !ok {
		return api.ErrForm
	}
	return api.OK
}

// Join returns the shortest text of tokens, one behind the other.
func Join(l []Token) (string, api.Errno) {
	var b strings.Builder
	for i, t := range l {
		s, e := Write(t)
		if e != api.OK {
			return "", e
		}
		if i > 0 && bare(l[i-1].Kind) && bare(t.Kind) {
			b.WriteByte(' ')
		}
		b.WriteString(s)
	}
	if b.Len() > api.MaxSource {
		return "", api.ErrLarge
	}
	return b.String(), api.OK
}

// bare reports whether tokens of a kind have no marks at their ends, so that two of them would be read as one.
func bare(kind int) bool {
	return kind == Name || kind == Number || kind == Variable || kind == Keyword
}

// Place returns the line and the column, from 1, of a byte offset.
func Place(text string, at int) (line, column int, e api.Errno) {
	if at < 0 || at > len(text) {
		return 0, 0, api.ErrRange
	}
	ahead := text[:at]
	return 1 + strings.Count(ahead, "\n"), at - strings.LastIndexByte(ahead, '\n'), api.OK
}

// Strip returns a text in which comments are replaced by blanks.
func Strip(text string) (string, int, api.Errno) {
	b := []byte(text)
	for p, err := range pieces(text) {
		if err != nil {
			at, e := locate(err)
			return "", at, e
		}
		if p.comment {
			blankOut(b[p.At:p.end])
		}
	}
	return string(b), 0, api.OK
}

// blankOut keeps line feeds, so that places stay what they were.
func blankOut(b []byte) {
	for i := range b {
		if b[i] != '\n' {
			b[i] = ' '
		}
	}
}
