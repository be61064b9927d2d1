package module

import "chiasmus/api"

// mapped returns the list of what a function makes of the elements of a list.
func mapped[T any](l []T, of func(T) T) []T {
	var out []T
	for _, x := range l {
		out = append(out, of(x))
	}
	return out
}

// renamer renames the calls of terms, sentences and functions.
type renamer func(name string) string

func (r renamer) function(f api.Function, name string) api.Function {
	return api.Function{Name: name, Entry: f.Entry, Sentences: mapped(f.Sentences, r.sentence)}
}

func (r renamer) sentence(s api.Sentence) api.Sentence {
	return api.Sentence{
		Left:    mapped(s.Left, r.term),
		Tests:   mapped(s.Tests, r.test),
		Right:   mapped(s.Right, r.term),
		Subject: mapped(s.Subject, r.term),
		Block:   mapped(s.Block, r.sentence),
	}
}

func (r renamer) test(t api.Test) api.Test {
	return api.Test{Expr: mapped(t.Expr, r.term), Pattern: mapped(t.Pattern, r.term)}
}

func (r renamer) term(t api.Term) api.Term {
	t.Kids = mapped(t.Kids, r.term)
	if t.Kind == api.Call {
		t.Text = r(t.Text)
	}
	return t
}
