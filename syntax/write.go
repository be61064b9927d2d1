package syntax

import (
	"iter"
	"math"
	"slices"
	"strings"

	"chiasmus/api"
	"chiasmus/term"
)

// Write returns the canonical text of a module.
func Write(m Module) (string, api.Errno) { return Wrap(m, math.MaxInt) }

// Wrap returns a text of a module with lines of at most width bytes where possible.
func Wrap(m Module, width int) (string, api.Errno) {
	if e := Form(m); e != api.OK {
		return "", e
	}
	w := writer{width: width}
	w.module(m)
	return limited(w.text.String())
}

// Sentence returns the text of a sentence in one line.
func Sentence(s api.Sentence) (string, api.Errno) {
	if e := sentenceForm(s, 0); e != api.OK {
		return "", e
	}
	return limited(oneLine(s))
}

func limited(text string) (string, api.Errno) {
	if len(text) > api.MaxSource {
		return "", api.ErrLarge
	}
	return text, api.OK
}

func oneLine(s api.Sentence) string {
	text := strings.Join(slices.Collect(head(s)), " ")
	if len(s.Block) == 0 {
		return text
	}
	var inner []string
	for _, b := range s.Block {
		inner = append(inner, oneLine(b))
	}
	return text + " " + strings.Join(inner, "; ") + " }"
}

// writer collects the text of a right module.
type writer struct {
	text  strings.Builder
	width int
}

func (w *writer) module(m Module) {
	if len(m.Externs) > 0 {
		w.text.WriteString("$EXTERN " + strings.Join(m.Externs, ", ") + ";\n")
	}
	for _, f := range m.Functions {
		if w.text.Len() > 0 {
			w.text.WriteByte('\n')
		}
		if f.Entry {
			w.text.WriteString("$ENTRY ")
		}
		w.text.WriteString(f.Name + " {\n")
		w.sentences(f.Sentences, 2)
		w.text.WriteString("}\n")
	}
}

// sentences writes sentences behind an indent.
func (w *writer) sentences(l []api.Sentence, indent int) {
	for _, s := range l {
		put := w.line(indent)
		for word := range withEnd(head(s), len(s.Block) == 0) {
			put(word)
		}
		w.text.WriteByte('\n')
		if len(s.Block) > 0 {
			w.sentences(s.Block, indent+2)
			w.text.WriteString(strings.Repeat(" ", indent) + "};\n")
		}
	}
}

// line begins a line, and returns the function that puts a word into it, or into a further line, where it is too wide.
func (w *writer) line(indent int) func(word string) {
	used, words := indent, 0
	w.text.WriteString(strings.Repeat(" ", indent))
	return func(word string) {
		if words > 0 && used+1+len(word) > w.width {
			w.text.WriteString("\n" + strings.Repeat(" ", indent+4))
			used, words = indent+4, 0
		}
		if words > 0 {
			w.text.WriteByte(' ')
			used++
		}
		w.text.WriteString(word)
		used += len(word)
		words++
	}
}

// withEnd yields words, the last one with a semicolon behind it, if this ends a sentence.
func withEnd(words iter.Seq[string], ends bool) iter.Seq[string] {
	return func(yield func(string) bool) {
		var last string
		for word := range words {
			if last != "" && !yield(last) {
				return
			}
			last = word
		}
		if ends {
			last += ";"
		}
		yield(last)
	}
}

// head yields the words of a sentence up to its Right, or up to the { of its Block.
func head(s api.Sentence) iter.Seq[string] {
	return func(yield func(string) bool) {
		all := func(sign string, l []api.Term) bool {
			if sign != "" && !yield(sign) {
				return false
			}
			for word := range words(l) {
				if !yield(word) {
					return false
				}
			}
			return true
		}
		ok := all("", s.Left)
		for _, t := range s.Tests {
			ok = ok && all(",", t.Expr) && all(":", t.Pattern)
		}
		if ok && len(s.Block) == 0 {
			all("=", s.Right)
		} else if ok && all(",", s.Subject) && yield(":") {
			yield("{")
		}
	}
}

// words yields the words of an expression.
func words(l []api.Term) iter.Seq[string] {
	return func(yield func(string) bool) {
		for i := 0; i < len(l); {
			t := l[i]
			if t.Kind != api.Group && t.Kind != api.Call {
				n := itemLength(l[i:])
				text, _ := term.Text(l[i : i+n])
				if !yield(text) {
					return
				}
				i += n
				continue
			}
			for word := range bracket(t) {
				if !yield(word) {
					return
				}
			}
			i++
		}
	}
}

// itemLength returns how many terms the first item of an expression has.
func itemLength(l []api.Term) int {
	n := 0
	for n < len(l) && l[n].Kind == api.Char {
		n++
	}
	return max(n, 1)
}

// bracket yields the words of a Group or a Call. A word is held back until it is known not to be the last one.
func bracket(t api.Term) iter.Seq[string] {
	held, closing, first := "(", ")", true
	if t.Kind == api.Call {
		held, closing, first = "<"+t.Text, ">", false
	}
	return func(yield func(string) bool) {
		held, first := held, first
		for word := range words(t.Kids) {
			if first {
				held, first = held+word, false
				continue
			}
			if !yield(held) {
				return
			}
			held = word
		}
		yield(held + closing)
	}
}
