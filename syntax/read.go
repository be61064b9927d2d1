package syntax

import (
	"chiasmus/api"
	"chiasmus/term"
	"chiasmus/token"
)

// Read returns the module with a text; with an error, a byte offset.
func Read(text string) (Module, int, api.Errno) {
	var m Module
	at, e := reading(text, func(r *reader) {
		for !r.ended() {
			r.item(&m)
		}
	})
	if e != api.OK {
		return Module{}, at, e
	}
	return m, 0, api.OK
}

// ReadSentence returns the sentence with a text.
func ReadSentence(text string) (api.Sentence, int, api.Errno) {
	var s api.Sentence
	at, e := reading(text, func(r *reader) {
		s = r.sentence()
		if !r.ended() {
			r.fail(ErrToken)
		}
	})
	if e != api.OK {
		return api.Sentence{}, at, e
	}
	return s, 0, api.OK
}

// Program returns the program with a text without external functions.
func Program(text string) (api.Program, int, api.Errno) {
	m, at, e := Read(text)
	if e != api.OK {
		return api.Program{}, at, e
	}
	if len(m.Externs) > 0 {
		return api.Program{}, 0, api.ErrArgument
	}
	return api.Program{Functions: m.Functions}, 0, api.OK
}

// reader reads tokens from the left; its methods panic with a stop at the first one that cannot be there.
type reader struct {
	tokens []token.Token // those that are not read yet
	length int           // of the text
	blocks int           // around what is read
}

// stop is an error with its offset.
type stop struct {
	at   int
	code api.Errno
}

// mark tells tokens apart that begin different things: the Text counts for signs and keywords alone.
type mark struct {
	kind int
	text string
}

// reading lets a function read a text, and returns the error at which it stopped.
func reading(text string, read func(*reader)) (at int, e api.Errno) {
	tokens, at, e := token.Scan(text)
	if e != api.OK {
		return at, e
	}
	defer func() {
		switch x := recover().(type) {
		case nil:
		case stop:
			at, e = x.at, x.code
		default:
			panic(x)
		}
	}()
	read(&reader{tokens: tokens, length: len(text)})
	return 0, api.OK
}

func (r *reader) ended() bool { return len(r.tokens) == 0 }

// fail stops at the next token. Where there is none, something is missing, whatever was asked for.
func (r *reader) fail(e api.Errno) {
	if !r.ended() {
		panic(stop{r.tokens[0].At, e})
	}
	if e != api.ErrCount {
		e = ErrEnd
	}
	panic(stop{r.length, e})
}

// next returns the mark of the next token.
func (r *reader) next() mark {
	if r.ended() {
		return mark{}
	}
	t := r.tokens[0]
	if t.Kind == token.Sign || t.Kind == token.Keyword {
		return mark{t.Kind, t.Text}
	}
	return mark{kind: t.Kind}
}

func (r *reader) take() token.Token {
	t := r.tokens[0]
	r.tokens = r.tokens[1:]
	return t
}

// sees reports whether the next token is a sign.
func (r *reader) sees(sign string) bool { return r.next() == mark{token.Sign, sign} }

// skips takes the next token, if it is a sign.
func (r *reader) skips(sign string) bool {
	ok := r.sees(sign)
	if ok {
		r.take()
	}
	return ok
}

func (r *reader) need(sign string) {
	if !r.skips(sign) {
		r.fail(ErrToken)
	}
}

// name takes the name of a function.
func (r *reader) name() string {
	if r.next().kind != token.Name || len(r.tokens[0].Text) > api.MaxName {
		r.fail(ErrToken)
	}
	return r.take().Text
}

func (r *reader) item(m *Module) {
	switch r.next() {
	case mark{token.Keyword, "$EXTERN"}:
		r.take()
		m.Externs = append(m.Externs, r.externs()...)
	case mark{token.Keyword, "$ENTRY"}:
		r.take()
		m.Functions = append(m.Functions, r.function(true))
	default:
		m.Functions = append(m.Functions, r.function(false))
	}
}

func (r *reader) externs() []string {
	names := []string{r.name()}
	for r.skips(",") {
		names = append(names, r.name())
	}
	r.need(";")
	return names
}

func (r *reader) function(entry bool) api.Function {
	f := api.Function{Name: r.name(), Entry: entry}
	r.need("{")
	f.Sentences = r.sentences()
	return f
}

// sentences reads what stands behind a { with its }.
func (r *reader) sentences() []api.Sentence {
	if r.sees("}") || r.sees(";") {
		r.fail(ErrEmpty)
	}
	l := []api.Sentence{r.sentence()}
	for r.skips(";") && !r.sees("}") {
		l = append(l, r.sentence())
	}
	r.need("}")
	return l
}

func (r *reader) sentence() api.Sentence {
	s := api.Sentence{Left: r.expression(false)}
	for r.skips(",") {
		e := r.expression(true)
		r.need(":")
		if r.sees("{") {
			s.Subject = e
			s.Block = r.block()
			return s
		}
		p := r.expression(false)
		s.Tests = append(s.Tests, api.Test{Expr: e, Pattern: p})
	}
	r.need("=")
	s.Right = r.expression(true)
	return s
}

func (r *reader) block() []api.Sentence {
	if r.blocks == api.MaxBlocks {
		r.fail(ErrNested)
	}
	r.take()
	r.blocks++
	l := r.sentences()
	r.blocks--
	return l
}

// expression reads a pattern, or a result, which has calls.
func (r *reader) expression(calls bool) []api.Term {
	l := r.terms(calls, 0)
	if nodes, _ := term.Size(l); nodes > api.MaxNodes {
		r.fail(api.ErrCount)
	}
	return l
}

// terms reads terms within so many brackets, up to a token that begins none.
func (r *reader) terms(calls bool, depth int) []api.Term {
	var l []api.Term
	for {
		switch r.next() {
		case mark{kind: token.Chars}:
			l = append(l, term.Chars(r.take().Text)...)
		case mark{kind: token.Quoted}, mark{kind: token.Name}:
			l = append(l, api.Term{Kind: api.Word, Text: r.take().Text})
		case mark{kind: token.Number}:
			l = append(l, api.Term{Kind: api.Number, Text: r.take().Text})
		case mark{kind: token.Variable}:
			v, _ := term.Variable(r.take().Text)
			l = append(l, v)
		case mark{token.Sign, "("}:
			l = append(l, r.group(calls, depth))
		case mark{token.Sign, "<"}:
			l = append(l, r.call(calls, depth))
		default:
			return l
		}
	}
}

func (r *reader) group(calls bool, depth int) api.Term {
	r.enter(depth)
	t := api.Term{Kind: api.Group, Kids: r.terms(calls, depth+1)}
	r.need(")")
	return t
}

func (r *reader) call(calls bool, depth int) api.Term {
	if !calls {
		r.fail(ErrCall)
	}
	r.enter(depth)
	t := api.Term{Kind: api.Call, Text: r.name()}
	t.Kids = r.terms(calls, depth+1)
	r.need(">")
	return t
}

// enter takes the bracket that stands within so many others.
func (r *reader) enter(depth int) {
	if depth == api.MaxDepth {
		r.fail(ErrNested)
	}
	r.take()
}
