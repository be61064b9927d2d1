package token

import (
	"errors"
	"iter"
	"strings"

	"chiasmus/api"
)

// fault is an error with the offset that is told of it.
type fault struct {
	at   int
	code api.Errno
}

func (f fault) Error() string { return f.code.Error() }

func (f fault) Unwrap() error { return f.code }

// locate returns the offset and the code of an error of the scanner.
func locate(err error) (at int, code api.Errno) {
	var f fault
	if errors.As(err, &f) {
		at = f.at
	}
	errors.As(err, &code)
	return at, code
}

// piece is a token or a comment, up to the offset end.
type piece struct {
	Token
	end     int
	comment bool
}

// pieces yields the tokens and the comments of a text, or an error behind the last one that is right.
func pieces(text string) iter.Seq2[piece, error] {
	return func(yield func(piece, error) bool) {
		if len(text) > api.MaxSource {
			yield(piece{}, fault{0, api.ErrLarge})
			return
		}
		s := scanner{text: text, class: classes()}
	scan:
		for at := 0; at < len(text); {
			switch s.class[text[at]] {
			case blank:
				at++
			default:
				p, err := s.piece(at)
				if !yield(p, err) || err != nil {
					break scan
				}
				at = p.end
			}
		}
	}
}

// scanner reads pieces at offsets of a text.
type scanner struct {
	text  string
	class [256]class
}

// piece returns the piece that begins at an offset.
func (s *scanner) piece(at int) (piece, error) {
	if s.startsComment(at) {
		return s.comment(at)
	}
	switch c := s.text[at]; s.class[c] {
	case quote:
		return s.quotation(at)
	case letter:
		if isVariableStart(s.text[at:]) {
			return s.variable(at)
		}
		return s.name(at)
	case digit:
		return s.number(at)
	case sign:
		return s.token(Sign, at, at+1), nil
	case dollar:
		return s.keyword(at)
	case joiner:
		if c == '-' && at+1 < len(s.text) && s.class[s.text[at+1]] == digit {
			return s.number(at)
		}
	}
	return piece{}, fault{at, ErrByte}
}

// token returns the token of a kind whose Text are the bytes themselves.
func (s *scanner) token(kind, at, end int) piece {
	return piece{Token: Token{Kind: kind, Text: s.text[at:end], At: at}, end: end}
}

// startsComment reports whether a comment begins at an offset: a star does it at the beginning of a line alone.
func (s *scanner) startsComment(at int) bool {
	if s.text[at] == '*' {
		return at == 0 || s.text[at-1] == '\n'
	}
	return strings.HasPrefix(s.text[at:], "/*")
}

func (s *scanner) comment(at int) (piece, error) {
	p := piece{Token: Token{At: at}, end: len(s.text), comment: true}
	if s.text[at] == '*' {
		if n := strings.IndexByte(s.text[at:], '\n'); n >= 0 {
			p.end = at + n
		}
		return p, nil
	}
	inside := at + 2 // its star does not belong to the end
	n := strings.Index(s.text[inside:], "*/")
	if n < 0 {
		return piece{}, fault{at, ErrComment}
	}
	p.end = inside + n + 2
	return p, nil
}

func (s *scanner) quotation(at int) (piece, error) {
	mark := s.text[at]
	b, n := unquote(s.text[at+1:], mark)
	if n < 0 {
		return piece{}, fault{at, ErrQuote}
	}
	kind := Chars
	if mark == '"' {
		kind = Quoted
	}
	if kind == Quoted && !sized(b, api.MaxWord) {
		return piece{}, fault{at, ErrLength}
	}
	return piece{Token: Token{Kind: kind, Text: b, At: at}, end: at + 1 + n}, nil
}

func (s *scanner) variable(at int) (piece, error) {
	end := at + 2
	end += s.span(end, letter, digit)
	return s.separate(s.token(Variable, at, end), isVariable(s.text[at:end]))
}

func (s *scanner) name(at int) (piece, error) {
	end := at + s.span(at, letter, digit, joiner)
	return s.separate(s.token(Name, at, end), IsName(s.text[at:end]))
}

func (s *scanner) number(at int) (piece, error) {
	end := at + 1
	end += s.span(end, digit)
	return s.separate(s.token(Number, at, end), IsNumber(s.text[at:end]))
}

func (s *scanner) keyword(at int) (piece, error) {
	end := at + 1
	end += s.span(end, letter, digit, joiner)
	p := s.token(Keyword, at, end)
	if !isKeyword(p.Text) {
		return piece{}, fault{at, ErrKeyword}
	}
	return s.separate(p, true)
}

// span returns how many bytes from an offset on are in one of some classes.
func (s *scanner) span(at int, in ...class) int { return span(&s.class, s.text[at:], in...) }

// separate returns a token if its length is right, and nothing stands directly behind it that must not.
func (s *scanner) separate(p piece, lengthOK bool) (piece, error) {
	if !lengthOK {
		return piece{}, fault{p.At, ErrLength}
	}
	if s.span(p.end, letter, digit, joiner, point) > 0 {
		return piece{}, fault{p.end, ErrNear}
	}
	return p, nil
}
