// Package fresh puts what rules and finals hold into memory of its own.
package fresh

import (
	"slices"

	"umlaut/api"
)

// Guards is guards in new memory.
func Guards(l [][]api.Span) [][]api.Span {
	out := slices.Clone(l)
	for i, g := range out {
		out[i] = slices.Clone(g)
	}
	return out
}

// Terms is the terms of some lists, one list behind the other, in new memory.
func Terms(lists ...[]api.Term) []api.Term {
	out := slices.Concat(lists...)
	for i, t := range out {
		out[i].Parts = slices.Clone(t.Parts)
	}
	return out
}
