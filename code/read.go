package code

import (
	"strconv"
	"strings"

	"chiasmus/api"
	"chiasmus/project"
	"chiasmus/stop"
	"chiasmus/term"
)

// reader reads the lines of a unit's text, and stops with ErrLine at one that is not right.
type reader struct {
	unit   Unit
	number int // of the line, from 1 on
}

func (r *reader) lines(s string) {
	for text := range strings.Lines(s) {
		r.number++
		text, ended := strings.CutSuffix(text, "\n")
		stop.Unless(ended, ErrLine)
		l := lineOf(text)
		r.line(l)
		stop.Unless(!l.more(), ErrLine)
	}
}

// line has functions that take what is left of a line.
type line struct {
	more func() bool   // whether something is left, be it an empty word
	rest func() string // takes all of it
	word func() string // takes a word, which ends ahead of a space or at the end, and stops if it is empty
}

func lineOf(s string) line {
	more := true
	return line{
		more: func() bool { return more },
		rest: func() string {
			more = false
			return s
		},
		word: func() string {
			first, behind, found := strings.Cut(s, " ")
			stop.Unless(first != "", ErrLine)
			s, more = behind, found
			return first
		},
	}
}

// line reads a line up to what must not follow.
func (r *reader) line(l line) {
	first := l.word()
	switch pack(first) {
	case pack("routine"):
		r.routine(l)
		return
	case pack("rule"):
		r.rule()
		return
	}
	ops, inss := opWords(), insWords()
	if kind := find(first, ops[:]); kind > 0 {
		r.op(kind, l)
		return
	}
	kind := find(first, inss[:])
	stop.Unless(kind > 0, ErrLine)
	r.ins(kind, l)
}

func (r *reader) routine(l line) {
	next := Routine{Name: name(l.word())}
	if l.more() {
		stop.Unless(l.word() == "entry", ErrLine)
		next.Entry = true
	}
	r.unit.Routines = append(r.unit.Routines, next)
}

// present returns the routine in which a line stands.
func (r *reader) present() *Routine {
	last := len(r.unit.Routines) - 1
	stop.Unless(last >= 0, ErrLine)
	return &r.unit.Routines[last]
}

func (r *reader) rule() {
	around := r.present()
	around.Rules = append(around.Rules, Rule{})
}

// within returns the rule in which a line stands.
func (r *reader) within() *Rule {
	around := r.present()
	last := len(around.Rules) - 1
	stop.Unless(last >= 0, ErrLine)
	return &around.Rules[last]
}

func (r *reader) op(kind int, l line) {
	rule := r.within()
	stop.Unless(len(rule.Build) == 0, ErrLine)
	o := project.Op{Kind: kind, Hole: number(l.word())}
	if isAtEnd(kind) {
		words := sides()
		side := find(l.word(), words[:])
		stop.Unless(side >= 0, ErrLine)
		o.Right = side == 1
	}
	if kind == project.Symbol {
		o.Symbol = symbol(l.rest())
	}
	if hasVar(kind) {
		o.Var = variable(l.word())
	}
	rule.Plan.Ops = append(rule.Plan.Ops, o)
}

func (r *reader) ins(kind int, l line) {
	rule := r.within()
	i := Ins{Kind: kind}
	switch kind {
	case Put:
		i.Symbol = symbol(l.rest())
	case Call:
		i.Text = name(l.word())
	case Move, Copy:
		i.Text = variable(l.word())
	}
	rule.Build = append(rule.Build, i)
}

// name returns a word that is the name of a function.
func name(s string) string {
	stop.Unless(isName(s), ErrLine)
	return s
}

// variable returns a word that is a variable. Whether it may stand there is told of the unit.
func variable(s string) string {
	stop.Unless(isVariable(s), ErrLine)
	return s
}

// number returns the number with some digits.
func number(s string) int {
	n, err := strconv.Atoi(s)
	stop.Unless(err == nil && strings.Trim(s, "0123456789") == "", ErrLine)
	return n
}

// symbol returns the symbol with a text, of which it may have several: which one is right is told of the unit.
func symbol(s string) api.Term {
	l, _, e := term.Parse(s)
	stop.Unless(e == api.OK && len(l) == 1 && term.IsSymbol(l[0]), ErrLine)
	stop.Unless(strings.Trim(s, " \t\r") == s, ErrLine)
	return l[0]
}
