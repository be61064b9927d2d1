// Package module is layer 5: modules linked into one program. See shared/doc/05-module.md.
package module

import (
	"chiasmus/api"
	"chiasmus/check"
	"chiasmus/syntax"
)

// Codes of layer 5.
const (
	ErrUnit   api.Errno = 70 // a unit whose name is none, or stands twice
	ErrExtern api.Errno = 71 // an external function that is no entry of exactly one other unit
	ErrEntry  api.Errno = 72 // an entry that two units have
	ErrLocal  api.Errno = 73 // a call of a function that is neither of the unit, nor external, nor known
	ErrLong   api.Errno = 74 // a name that is too long behind linking
	ErrCycle  api.Errno = 75 // units that need each other
)

// Unit is a module with a name.
type Unit struct {
	Name   string
	Module syntax.Module
}

// linkedName returns the name that a function of a unit has in the program, however long it is.
func linkedName(u Unit, f api.Function) string {
	if f.Entry {
		return f.Name
	}
	return u.Name + "_" + f.Name
}

// find returns the first function of a unit with a name.
func find(u Unit, name string) (api.Function, bool) {
	i := check.Find(api.Program{Functions: u.Module.Functions}, name)
	if i < 0 {
		return api.Function{}, false
	}
	return u.Module.Functions[i], true
}

// Name returns the name that a function of a unit has in the program.
func Name(l []Unit, unit int, function string) (string, api.Errno) {
	if unit < 0 || unit >= len(l) {
		return "", api.ErrRange
	}
	f, ok := find(l[unit], function)
	if !ok {
		return "", api.ErrMissing
	}
	name := linkedName(l[unit], f)
	if len(name) > api.MaxName {
		return "", ErrLong
	}
	return name, api.OK
}

// Origin returns the unit and the function with a name in the program.
func Origin(l []Unit, name string) (unit int, function string, e api.Errno) {
	o, ok := originsOf(l)(name)
	if !ok {
		return 0, "", api.ErrMissing
	}
	return o.unit, o.function, api.OK
}

// origin is where a function of the program comes from.
type origin struct {
	unit     int
	function string
}

// originsOf returns the function that looks up the origins of names.
func originsOf(l []Unit) func(name string) (origin, bool) {
	origins := map[string]origin{}
	for i, u := range l {
		for _, f := range u.Module.Functions {
			name := linkedName(u, f)
			if _, ok := origins[name]; !ok {
				origins[name] = origin{i, f.Name}
			}
		}
	}
	return func(name string) (origin, bool) {
		o, ok := origins[name]
		return o, ok
	}
}

// Trim returns the program without the functions that some entries do not need.
func Trim(p api.Program, entries []string) (api.Program, api.Errno) {
	if _, e := check.Program(p); e != api.OK {
		return api.Program{}, e
	}
	for _, name := range entries {
		if check.Find(p, name) < 0 {
			return api.Program{}, api.ErrMissing
		}
	}
	// Calls keep their names, but the caller gets functions that share no memory with those of p.
	keep := renamer(func(name string) string { return name })
	var trimmed api.Program
	for _, name := range check.Reached(p, entries) {
		f := p.Functions[check.Find(p, name)]
		trimmed.Functions = append(trimmed.Functions, keep.function(f, name))
	}
	return trimmed, api.OK
}
