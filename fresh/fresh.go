// Package fresh puts what rules and finals hold, and tables, into memory of its own.
package fresh

import (
	"slices"

	"umlaut/api"
)

// Guards is guards in new memory.
func Guards(l [][]api.Span) [][]api.Span {
	out := slices.Clone(l)
	for i, g := range out {
		out[i] = slices.Clone(g)
	}
	return out
}

// Terms is the terms of some lists, one list behind the other, in new memory.
func Terms(lists ...[]api.Term) []api.Term {
	out := slices.Concat(lists...)
	for i, t := range out {
		out[i].Parts = slices.Clone(t.Parts)
	}
	return out
}

// Table is a table in new memory.
func Table(t api.Table) api.Table {
	t.Nodes, t.Acts, t.Ends = slices.Clone(t.Nodes), slices.Clone(t.Acts), slices.Clone(t.Ends)
	for i, n := range t.Nodes {
		t.Nodes[i].Next = slices.Clone(n.Next)
	}
	for i, a := range t.Acts {
		t.Acts[i].Out = Terms(a.Out)
	}
	for i, out := range t.Ends {
		t.Ends[i] = Terms(out)
	}
	return t
}
