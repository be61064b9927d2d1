package term

import "chiasmus/api"

// Parse returns the result expression with a text; with an error, a byte offset.
func Parse(s string) ([]api.Term, int, api.Errno) {
	if len(s) > api.MaxSource {
		return nil, 0, api.ErrLarge
	}
	p := parser{text: s, open: make([]api.Term, 1), bad: -1}
	p.read()
	if p.bad >= 0 {
		return nil, p.bad, api.ErrText
	}
	l := p.open[0].Kids
	if e := Result(l); e != api.OK {
		return nil, 0, e
	}
	return l, 0, api.OK
}

// parser reads items; it keeps its own stack of brackets, since a text may have more of them than an expression may.
type parser struct {
	text string
	at   int        // the offset of the next byte
	open []api.Term // the brackets that are not closed yet; the first one stands for the expression itself
	bad  int        // the offset of the error, -1 for none
}

// read reads the whole text.
func (p *parser) read() {
items:
	for p.bad < 0 {
		p.skip()
		rest := p.text[p.at:]
		switch {
		case rest == "":
			break items
		case rest[0] == '\'':
			p.chars()
		case rest[0] == '"':
			p.quoted()
		case variableKind(rest) != 0:
			p.variable()
		case is(rest[0], letter):
			p.word()
		case is(rest[0], digit), rest[0] == '-':
			p.number()
		case rest[0] == '(':
			p.at++
			p.open = append(p.open, api.Term{Kind: api.Group})
		case rest[0] == '<':
			p.call()
		case rest[0] == ')' && p.inner() == api.Group, rest[0] == '>' && p.inner() == api.Call:
			p.at++
			p.close()
		default:
			p.fail(p.at)
		}
	}
	if p.bad < 0 && len(p.open) > 1 {
		p.fail(p.at)
	}
}

func (p *parser) fail(at int) { p.bad = at }

func (p *parser) skip() { p.at += span(p.text[p.at:], blank) }

// inner returns the kind of the innermost open bracket.
func (p *parser) inner() int { return p.open[len(p.open)-1].Kind }

// add appends terms to the innermost open bracket.
func (p *parser) add(l ...api.Term) {
	top := &p.open[len(p.open)-1]
	top.Kids = append(top.Kids, l...)
}

func (p *parser) close() {
	last := len(p.open) - 1
	t := p.open[last]
	p.open = p.open[:last]
	p.add(t)
}

// item adds a term that ends at an offset.
func (p *parser) item(t api.Term, end int) {
	p.add(t)
	p.pass(end)
}

// pass goes on at the end of an item, and fails where it is none: "1a" and "e.x.y" are no items.
func (p *parser) pass(end int) {
	p.at = end
	if end < len(p.text) && (is(p.text[end], letter|digit|joiner) || p.text[end] == '.') {
		p.fail(end)
	}
}

func (p *parser) chars() {
	if s, ok := p.quotation(); ok {
		p.add(Chars(s)...)
	}
}

func (p *parser) quoted() {
	first := p.at
	s, ok := p.quotation()
	if ok && !sized(s, api.MaxWord) {
		p.fail(first)
	} else if ok {
		p.add(api.Term{Kind: api.Word, Text: s})
	}
}

// quotation reads up to the next mark like the one that stands here, and returns the bytes that are meant.
func (p *parser) quotation() (string, bool) {
	var b []byte
	mark := p.text[p.at]
	for p.at++; p.at < len(p.text); {
		c := p.text[p.at]
		if c == mark {
			p.at++
			return string(b), true
		}
		n := 1
		if c == '\\' {
			c, n = escape(p.text[p.at:], mark)
		}
		if n == 0 || n == 1 && !is(c, plain) {
			p.fail(p.at)
			return "", false
		}
		b = append(b, c)
		p.at += n
	}
	p.fail(len(p.text))
	return "", false
}

// escape returns the byte that an escape at the beginning of a text means, and its length, 0 for none.
func escape(s string, mark byte) (byte, int) {
	if len(s) < 2 {
		return 0, 0
	}
	switch c := s[1]; {
	case c == '\\', c == mark:
		return c, 2
	case mark != '\'':
		return 0, 0
	case c == 'n':
		return '\n', 2
	case c == 't':
		return '\t', 2
	case c == 'x' && len(s) >= 4 && hex(s[2]) >= 0 && hex(s[3]) >= 0:
		return byte(hex(s[2])<<4 | hex(s[3])), 4
	}
	return 0, 0
}

// hex returns the value of a hexadecimal digit, -1 for another byte.
func hex(c byte) int {
	switch {
	case '0' <= c && c <= '9':
		return int(c - '0')
	case 'a' <= c && c <= 'f':
		return int(c-'a') + 10
	case 'A' <= c && c <= 'F':
		return int(c-'A') + 10
	}
	return -1
}

func (p *parser) variable() {
	end := p.at + 2
	end += span(p.text[end:], letter|digit)
	t, ok := Variable(p.text[p.at:end])
	if !ok {
		p.fail(p.at)
		return
	}
	p.item(t, end)
}

func (p *parser) word() {
	end := p.at + identifier(p.text[p.at:])
	s := p.text[p.at:end]
	if !isWord(s) {
		p.fail(p.at)
		return
	}
	p.item(api.Term{Kind: api.Word, Text: s}, end)
}

func (p *parser) number() {
	end := p.at + 1
	end += span(p.text[end:], digit)
	s := p.text[p.at:end]
	if !isNumber(s) {
		p.fail(p.at)
		return
	}
	p.item(api.Term{Kind: api.Number, Text: s}, end)
}

func (p *parser) call() {
	p.at++
	p.skip()
	end := p.at + identifier(p.text[p.at:])
	s := p.text[p.at:end]
	if !isFunctionName(s) {
		p.fail(p.at)
		return
	}
	p.open = append(p.open, api.Term{Kind: api.Call, Text: s})
	p.pass(end)
}
