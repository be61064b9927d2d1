package meta

import "chiasmus/api"

// wrong is the panic of what is no metacode.
type wrong struct{}

// attempt calls a function, and returns ErrMeta, if it meets what is no metacode.
func attempt(do func()) (e api.Errno) {
	defer func() {
		switch x := recover().(type) {
		case nil:
		case wrong:
			e = ErrMeta
		default:
			panic(x)
		}
	}()
	do()
	return api.OK
}

func must(ok bool) {
	if !ok {
		panic(wrong{})
	}
}

// reader returns a function that takes the next term of a list, which must be there, and one that tells whether there is one.
func reader(l []api.Term) (next func() api.Term, more func() bool) {
	next = func() api.Term {
		must(len(l) > 0)
		t := l[0]
		l = l[1:]
		return t
	}
	more = func() bool { return len(l) > 0 }
	return next, more
}

// expression returns the one with some metacode; its names may be wrong, which is not a matter of the form.
func expression(v []api.Term) []api.Term {
	var l []api.Term
	next, more := reader(v)
	for more() {
		t := next()
		switch {
		case t.Kind == api.Group:
			l = append(l, group(expression(t.Kids)...))
		case isChar(t, "*"):
			l = append(l, starred(next))
		default:
			l = append(l, api.Term{Kind: t.Kind, Text: t.Text})
		}
	}
	return l
}

func isChar(t api.Term, text string) bool { return t.Kind == api.Char && t.Text == text }

// starred returns the term whose metacode begins with the Char `*`, behind it.
func starred(next func() api.Term) api.Term {
	switch t := next(); {
	case t.Kind == api.Group:
		return call(t.Kids)
	case isChar(t, "V"):
		return char('*')
	case isChar(t, "S"):
		return named(api.SVar, next())
	case isChar(t, "T"):
		return named(api.TVar, next())
	case isChar(t, "E"):
		return named(api.EVar, next())
	}
	panic(wrong{})
}

func call(v []api.Term) api.Term {
	next, _ := reader(v)
	t := named(api.Call, next())
	t.Kids = expression(v[1:])
	return t
}

// named returns a term of a kind with a word as its name.
func named(kind int, name api.Term) api.Term {
	must(name.Kind == api.Word)
	return api.Term{Kind: kind, Text: name.Text}
}

// program returns the one with some metacode; it may have errors.
func program(v []api.Term) api.Program {
	var p api.Program
	next, more := reader(v)
	for more() {
		p.Functions = append(p.Functions, readFunction(kids(next())))
	}
	return p
}

// kids returns what is in a group.
func kids(t api.Term) []api.Term {
	must(t.Kind == api.Group)
	return t.Kids
}

func readFunction(v []api.Term) api.Function {
	next, more := reader(v)
	name, scope := next(), next()
	must(name.Kind == api.Word && scope.Kind == api.Word && (scope.Text == entry || scope.Text == local))
	f := api.Function{Name: name.Text, Entry: scope.Text == entry}
	for more() {
		f.Sentences = append(f.Sentences, readSentence(kids(next())))
	}
	return f
}

func readSentence(v []api.Term) api.Sentence {
	next, more := reader(v)
	s := api.Sentence{Left: expression(kids(next())), Right: expression(kids(next()))}
	must(!more())
	return s
}
