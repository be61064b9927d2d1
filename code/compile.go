package code

import (
	"slices"

	"chiasmus/api"
	"chiasmus/project"
	"chiasmus/stop"
	"chiasmus/term"
)

// routine returns the code of a right function.
func routine(f api.Function) Routine {
	r := Routine{Name: f.Name, Entry: f.Entry}
	for _, s := range f.Sentences {
		plan, e := project.Compile(s.Left, nil)
		stop.Need(e)
		r.Rules = append(r.Rules, Rule{Plan: plan, Build: instructions(s.Right)})
	}
	return r
}

// instructions returns those that build a result.
func instructions(l []api.Term) []Ins {
	var m emitter
	m.all(l)
	m.moveLast()
	return m.list
}

// emitter appends instructions.
type emitter struct{ list []Ins }

func (m *emitter) all(l []api.Term) {
	emit := emitters()
	for _, t := range l {
		emit[t.Kind](m, t)
	}
}

// emitters returns what appends the instructions of a term by its kind.
func emitters() [api.Call + 1]func(*emitter, api.Term) {
	return [api.Call + 1]func(*emitter, api.Term){
		api.Char:   (*emitter).symbol,
		api.Word:   (*emitter).symbol,
		api.Number: (*emitter).symbol,
		api.Group:  (*emitter).group,
		api.SVar:   (*emitter).variable,
		api.TVar:   (*emitter).variable,
		api.EVar:   (*emitter).variable,
		api.Call:   (*emitter).call,
	}
}

func (m *emitter) add(i Ins) { m.list = append(m.list, i) }

func (m *emitter) symbol(t api.Term) {
	m.add(Ins{Kind: Put, Symbol: api.Term{Kind: t.Kind, Text: t.Text}})
}

func (m *emitter) group(t api.Term) {
	m.add(Ins{Kind: Begin})
	m.all(t.Kids)
	m.add(Ins{Kind: End})
}

func (m *emitter) call(t api.Term) {
	m.add(Ins{Kind: Call, Text: t.Text})
	m.all(t.Kids)
	m.add(Ins{Kind: Stop})
}

func (m *emitter) variable(t api.Term) { m.add(Ins{Kind: Copy, Text: term.Name(t)}) }

// moveLast makes the last copy of each variable a move.
func (m *emitter) moveLast() {
	moved := map[string]bool{}
	for at, i := range slices.Backward(m.list) {
		if i.Kind == Copy && !moved[i.Text] {
			m.list[at].Kind = Move
			moved[i.Text] = true
		}
	}
}
