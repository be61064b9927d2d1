package meta

import "chiasmus/api"

// The words of metacode for functions that are entries, and for others.
const (
	entry = "ENTRY"
	local = "LOCAL"
)

// writer puts the metacode of terms together.
type writer struct{ out []api.Term }

// turns returns the ways to turn terms, by their kinds.
func turns() [api.Call + 1]func(*writer, api.Term) {
	return [...]func(*writer, api.Term){
		api.Char:   (*writer).char,
		api.Word:   (*writer).symbol,
		api.Number: (*writer).symbol,
		api.Group:  (*writer).group,
		api.SVar:   (*writer).variable,
		api.TVar:   (*writer).variable,
		api.EVar:   (*writer).variable,
		api.Call:   (*writer).call,
	}
}

// metacode returns that of an expression without an error.
func metacode(l []api.Term) []api.Term {
	var w writer
	table := turns()
	for _, t := range l {
		table[t.Kind](&w, t)
	}
	return w.out
}

func (w *writer) put(l ...api.Term) { w.out = append(w.out, l...) }

func (w *writer) char(t api.Term) {
	w.symbol(t)
	if t.Text == "*" {
		w.put(char('V'))
	}
}

func (w *writer) symbol(t api.Term) { w.put(api.Term{Kind: t.Kind, Text: t.Text}) }

func (w *writer) group(t api.Term) { w.put(group(metacode(t.Kids)...)) }

func (w *writer) variable(t api.Term) {
	letter := byte('S')
	switch t.Kind {
	case api.TVar:
		letter = 'T'
	case api.EVar:
		letter = 'E'
	}
	w.put(char('*'), char(letter), word(t.Text))
}

func (w *writer) call(t api.Term) {
	w.put(char('*'), group(append([]api.Term{word(t.Text)}, metacode(t.Kids)...)...))
}

func char(c byte) api.Term { return api.Term{Kind: api.Char, Text: string(rune(c))} }

func word(s string) api.Term { return api.Term{Kind: api.Word, Text: s} }

func group(l ...api.Term) api.Term { return api.Term{Kind: api.Group, Kids: l} }

// sentence returns the metacode of a sentence.
func sentence(s api.Sentence) api.Term {
	return group(group(metacode(s.Left)...), group(metacode(s.Right)...))
}

// function returns the metacode of a function.
func function(f api.Function) api.Term {
	l := []api.Term{word(f.Name), word(local)}
	if f.Entry {
		l[1] = word(entry)
	}
	for _, s := range f.Sentences {
		l = append(l, sentence(s))
	}
	return group(l...)
}
