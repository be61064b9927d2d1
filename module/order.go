package module

import (
	"slices"

	"chiasmus/api"
)

// entriesOf returns the units that have an entry, ascending, by its name.
func entriesOf(l []Unit) map[string][]int {
	entries := map[string][]int{}
	for i, u := range l {
		for _, f := range u.Module.Functions {
			if f.Entry {
				entries[f.Name] = append(entries[f.Name], i)
			}
		}
	}
	return entries
}

// Needs returns the indices of the units that a unit needs directly, ascending.
func Needs(l []Unit, unit int) ([]int, api.Errno) {
	if unit < 0 || unit >= len(l) {
		return nil, api.ErrRange
	}
	return needs(l[unit], unit, entriesOf(l))
}

// needs returns what a unit with an index needs, where the units with an entry are told by its name.
func needs(u Unit, unit int, entries map[string][]int) ([]int, api.Errno) {
	var needed []int
	for _, name := range u.Module.Externs {
		l := entries[name]
		i := slices.IndexFunc(l, func(other int) bool { return other != unit })
		if i < 0 {
			return nil, ErrExtern
		}
		needed = append(needed, l[i])
	}
	slices.Sort(needed)
	return slices.Compact(needed), api.OK
}

// Order returns the indices of units, each one behind those that it needs, if that is possible.
func Order(l []Unit) ([]int, api.Errno) {
	entries := entriesOf(l)
	var needed [][]int
	for i, u := range l {
		n, e := needs(u, i, entries)
		if e != api.OK {
			return nil, e
		}
		needed = append(needed, n)
	}
	var order []int
	there := make([]bool, len(l))
next:
	for len(order) < len(l) {
		for i := range l {
			if !there[i] && allThere(needed[i], there) {
				there[i] = true
				order = append(order, i)
				continue next
			}
		}
		return nil, ErrCycle
	}
	return order, api.OK
}

func allThere(l []int, there []bool) bool {
	return !slices.ContainsFunc(l, func(i int) bool { return !there[i] })
}
