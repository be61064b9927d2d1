package module

import (
	"slices"

	"chiasmus/api"
	"chiasmus/check"
	"chiasmus/syntax"
	"chiasmus/term"
)

// stop is an error with the index of a unit.
type stop struct {
	unit int
	code api.Errno
}

// linker links units; its methods panic with a stop at the first error.
type linker struct {
	units   []Unit
	entries map[string]int // the entries by names, each with its unit
	known   map[string]bool
}

// Link returns the program of units, where known functions may be called everywhere; with an error, the index of a unit.
func Link(l []Unit, known []string) (api.Program, int, api.Errno) {
	k := linker{units: l, entries: map[string]int{}, known: map[string]bool{}}
	for _, name := range known {
		k.known[name] = true
	}
	return k.link()
}

func (k *linker) link() (p api.Program, unit int, e api.Errno) {
	defer func() {
		switch x := recover().(type) {
		case nil:
		case stop:
			p, unit, e = api.Program{}, x.unit, x.code
		default:
			panic(x)
		}
	}()
	k.checkUnits()
	k.collectEntries()
	k.checkExterns()
	k.checkCalls()
	k.checkNames()
	return k.program(), 0, api.OK
}

// need stops with an error of a unit, if it is one.
func (k *linker) need(unit int, e api.Errno) {
	if e != api.OK {
		panic(stop{unit, e})
	}
}

// must stops with an error of a unit, if something does not hold.
func (k *linker) must(ok bool, unit int, e api.Errno) {
	if !ok {
		panic(stop{unit, e})
	}
}

func (k *linker) checkUnits() {
	names := map[string]bool{}
	for i, u := range k.units {
		k.must(isFunctionName(u.Name) && !names[u.Name], i, ErrUnit)
		names[u.Name] = true
		k.need(i, syntax.Form(u.Module))
		own := map[string]bool{}
		for _, name := range ownNames(u) {
			k.must(!own[name], i, api.ErrDuplicate)
			own[name] = true
		}
	}
}

func isFunctionName(name string) bool {
	return term.Result([]api.Term{{Kind: api.Call, Text: name}}) == api.OK
}

// ownNames returns the names of a unit's functions and its external names.
func ownNames(u Unit) []string {
	names := slices.Clone(u.Module.Externs)
	for _, f := range u.Module.Functions {
		names = append(names, f.Name)
	}
	return names
}

func (k *linker) collectEntries() {
	for i, u := range k.units {
		for _, f := range u.Module.Functions {
			if !f.Entry {
				continue
			}
			_, double := k.entries[f.Name]
			k.must(!double && !k.known[f.Name], i, ErrEntry)
			k.entries[f.Name] = i
		}
	}
}

// checkExterns relies on checkUnits, behind which no external name is that of a function of its own unit.
func (k *linker) checkExterns() {
	for i, u := range k.units {
		for _, name := range u.Module.Externs {
			_, ok := k.entries[name]
			k.must(ok, i, ErrExtern)
		}
	}
}

func (k *linker) checkCalls() {
	for i, u := range k.units {
		own := map[string]bool{}
		for _, name := range ownNames(u) {
			own[name] = true
		}
		for _, f := range u.Module.Functions {
			for _, name := range check.Called(f) {
				k.must(own[name] || k.known[name], i, ErrLocal)
			}
		}
	}
}

func (k *linker) checkNames() {
	names := map[string]bool{}
	for i, u := range k.units {
		for _, f := range u.Module.Functions {
			name := linkedName(u, f)
			k.must(len(name) <= api.MaxName, i, ErrLong)
			k.must(!names[name] && !k.known[name], i, api.ErrDuplicate)
			names[name] = true
		}
	}
}

// program returns the program of the units, if it has no error.
func (k *linker) program() api.Program {
	var p api.Program
	var origins []int
	for i, u := range k.units {
		link := linkedCalls(u)
		for _, f := range u.Module.Functions {
			p.Functions = append(p.Functions, link.function(f, linkedName(u, f)))
			origins = append(origins, i)
		}
	}
	if at, e := check.Program(p); e != api.OK {
		panic(stop{origins[at.Function], e})
	}
	return p
}

// linkedCalls returns the renamer of the calls of a unit.
func linkedCalls(u Unit) renamer {
	linked := map[string]string{}
	for _, f := range u.Module.Functions {
		linked[f.Name] = linkedName(u, f)
	}
	return func(name string) string {
		if other, ok := linked[name]; ok {
			return other
		}
		return name
	}
}

// Split returns units with the functions that a program has of them, as they were.
func Split(l []Unit, p api.Program) ([]Unit, api.Errno) {
	if _, e := check.Program(p); e != api.OK {
		return nil, e
	}
	origins := originsOf(l)
	var units []Unit
	for _, u := range l {
		units = append(units, Unit{Name: u.Name, Module: syntax.Module{Externs: slices.Clone(u.Module.Externs)}})
	}
	for _, f := range p.Functions {
		o, ok := origins(f.Name)
		if !ok {
			return nil, api.ErrMissing
		}
		own := renamer(func(name string) string {
			if called, ok := origins(name); ok && called.unit == o.unit {
				return called.function
			}
			return name
		})
		m := &units[o.unit].Module
		m.Functions = append(m.Functions, own.function(f, o.function))
	}
	return units, api.OK
}
