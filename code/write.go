package code

import (
	"strconv"
	"strings"

	"chiasmus/api"
	"chiasmus/project"
	"chiasmus/stop"
	"chiasmus/term"
)

// writer writes the text of a right unit, and stops when it is too large.
type writer struct{ text strings.Builder }

func (w *writer) line(words ...string) {
	w.text.WriteString(strings.Join(words, " "))
	w.text.WriteByte('\n')
	stop.Unless(w.text.Len() <= api.MaxSource, api.ErrLarge)
}

func (w *writer) unit(u Unit) {
	for _, r := range u.Routines {
		if r.Entry {
			w.line("routine", r.Name, "entry")
		} else {
			w.line("routine", r.Name)
		}
		for _, rule := range r.Rules {
			w.rule(rule)
		}
	}
}

func (w *writer) rule(r Rule) {
	w.line("rule")
	for _, o := range r.Plan.Ops {
		w.op(o)
	}
	for _, i := range r.Build {
		w.ins(i)
	}
}

func (w *writer) op(o project.Op) {
	words := []string{opWords()[o.Kind], strconv.Itoa(o.Hole)}
	if isAtEnd(o.Kind) {
		side := 0
		if o.Right {
			side = 1
		}
		words = append(words, sides()[side])
	}
	if o.Kind == project.Symbol {
		words = append(words, symbolText(o.Symbol))
	}
	if hasVar(o.Kind) {
		words = append(words, o.Var)
	}
	w.line(words...)
}

func (w *writer) ins(i Ins) {
	words := []string{insWords()[i.Kind]}
	if i.Kind == Put {
		words = append(words, symbolText(i.Symbol))
	}
	if i.Text != "" {
		words = append(words, i.Text)
	}
	w.line(words...)
}

// symbolText returns the text of a symbol, which is right.
func symbolText(t api.Term) string {
	s, _ := term.Text([]api.Term{t})
	return s
}
