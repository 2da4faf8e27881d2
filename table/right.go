package table

import (
	"umlaut/api"
	"umlaut/term"
)

// sizesRight tells whether a table has as many of all as may be, and its nodes and classes fit together.
func sizesRight(t api.Table) bool {
	if len(t.Nodes) < 1 || len(t.Nodes) > api.MaxNodes || len(t.Acts) > api.MaxRules || len(t.Ends) > api.MaxRules {
		return false
	}
	classes := len(t.Nodes[0].Next)
	if classes < 1 || classes > len(t.Class) || t.Nodes[0].Held != 0 {
		return false
	}
	for _, n := range t.Nodes {
		if len(n.Next) != classes || n.Held < 0 || n.Held > api.MaxWindow {
			return false
		}
	}
	for _, c := range t.Class {
		if int(c) >= classes {
			return false
		}
	}
	return true
}

// actsRight tells whether all acts are right, whoever tells of them.
func actsRight(t api.Table) bool {
	for _, a := range t.Acts {
		if a.Eat < 1 || a.Eat > api.MaxWindow || a.To < 0 || a.To >= len(t.Nodes) || t.Nodes[a.To].Held != 0 || len(a.Out) > api.MaxOut {
			return false
		}
	}
	return true
}

// endsRight tells whether all ends are right, whoever tells of them.
func endsRight(t api.Table) bool {
	for _, out := range t.Ends {
		if len(out) > api.MaxOut {
			return false
		}
	}
	return true
}

// needs is a table whose acts and ends are right, and of each of them how long a window has to be.
type needs struct {
	api.Table
	acts, ends []int
}

// needsOf is a table with what its acts and ends need: so that is found once, however many nodes tell of them.
func needsOf(t api.Table) needs {
	n := needs{Table: t}
	for _, a := range t.Acts {
		n.acts = append(n.acts, max(a.Eat, need(a.Out)))
	}
	for _, out := range t.Ends {
		n.ends = append(n.ends, need(out))
	}
	return n
}

// need is how many symbols a window has at least of which terms are right; more than any window has, if they never are.
func need(terms []api.Term) int {
	n := 0
	for _, t := range terms {
		// What is right of a window is right of all longer ones.
		for n <= api.MaxWindow && !term.Right(t, api.Bytes, api.Bytes, n) {
			n++
		}
	}
	return n
}

// nodeRight tells whether what a node tells of is right.
func (n needs) nodeRight(i int) bool {
	held, end := n.Nodes[i].Held, n.Nodes[i].End
	for _, x := range n.Nodes[i].Next {
		if !n.nextRight(held, x) {
			return false
		}
	}
	return end == none || 0 <= end && end < len(n.ends) && n.ends[end] <= held
}

// nextRight tells whether a number may stand in the Next of a node that holds so many bytes.
func (n needs) nextRight(held, x int) bool {
	switch {
	case x == none:
		return true
	case held == api.MaxWindow:
		return false
	case x >= 0:
		return x < len(n.Nodes) && n.Nodes[x].Held == held+1
	}
	act := firstAct - x
	return act < len(n.acts) && n.acts[act] <= held+1
}
