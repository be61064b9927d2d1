package code

import (
	"slices"

	"chiasmus/project"
)

// opWords returns the words of lines for operations, by their kinds.
func opWords() [project.Open + 1]string {
	return [...]string{
		project.Symbol: "symbol",
		project.Enter:  "enter",
		project.TakeS:  "takes",
		project.TakeT:  "taket",
		project.Known:  "known",
		project.Empty:  "empty",
		project.Close:  "close",
		project.Open:   "open",
	}
}

// insWords returns the words of lines for instructions, by their kinds.
func insWords() [Copy + 1]string {
	return [...]string{Put: "put", Begin: "begin", End: "end", Call: "call", Stop: "stop", Move: "move", Copy: "copy"}
}

// sides returns the words for the ends of a hole.
func sides() [2]string { return [...]string{"left", "right"} }

// isAtEnd reports whether operations of a kind are done at one of the ends of a hole.
func isAtEnd(kind int) bool {
	switch kind {
	case project.Symbol, project.Enter, project.TakeS, project.TakeT, project.Known:
		return true
	}
	return false
}

// hasVar reports whether operations of a kind have a variable.
func hasVar(kind int) bool {
	switch kind {
	case project.Symbol, project.Enter, project.Empty:
		return false
	}
	return true
}

// packed has the bytes of a word behind their number, so that words are compared at once.
type packed [8]byte

// pack returns a packed word; all that are longer than those of lines are one that is none of them.
func pack(s string) packed {
	var w packed
	if len(s) < len(w) {
		w[0] = byte(len(s))
		copy(w[1:], s)
	}
	return w
}

// find returns the index of a word in a list, -1 for none.
func find(s string, words []string) int {
	return slices.IndexFunc(words, func(w string) bool { return w != "" && pack(w) == pack(s) })
}
