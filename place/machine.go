package place

import (
	"umlaut/api"
	"umlaut/bitset"
	"umlaut/minterm"
	"umlaut/states"
)

// Machine is a description whose guards are told by blocks.
type Machine struct {
	Blocks [][]api.Span
	Least  []int      // the least symbol of each block
	Every  bitset.Set // all blocks
	Rules  [][]Rule   // of each state
	Finals [][]Final
}

// Rule is a rule, its number in the description, and the blocks of each of its guards.
type Rule struct {
	api.Rule
	Number int
	Have   []bitset.Set
}

// Final is a final, its number in the description, and the blocks of each of its guards.
type Final struct {
	api.Final
	Number int
	Have   []bitset.Set
}

// NewMachine is a well-formed description and blocks of which each of its guards is some.
func NewMachine(d api.Desc, blocks [][]api.Span) *Machine {
	m := &Machine{Blocks: blocks, Least: minterm.Least(blocks), Every: bitset.New(len(blocks))}
	for b := range blocks {
		m.Every.Put(b)
	}
	var rules []Rule
	for i, r := range d.Rules {
		rules = append(rules, Rule{r, i, m.sets(r.Guards)})
	}
	var finals []Final
	for i, f := range d.Finals {
		finals = append(finals, Final{f, i, m.sets(f.Guards)})
	}
	m.Rules = states.By(rules, d.States, func(r Rule) int { return r.From })
	m.Finals = states.By(finals, d.States, func(f Final) int { return f.From })
	return m
}

// sets is the blocks of each guard.
func (m *Machine) sets(guards [][]api.Span) []bitset.Set {
	var out []bitset.Set
	for _, g := range guards {
		out = append(out, m.within(g))
	}
	return out
}

// within is the blocks of which a guard is made; it is plain, and the blocks' least symbols rise.
func (m *Machine) within(guard []api.Span) bitset.Set {
	out := bitset.New(len(m.Blocks))
	for b, x := range m.Least {
		for len(guard) > 0 && guard[0].Hi < x {
			guard = guard[1:]
		}
		if len(guard) > 0 && guard[0].Lo <= x {
			out.Put(b)
		}
	}
	return out
}

// Ends tells whether a final ends where so much is held.
func (f Final) Ends(w Word) bool {
	return len(f.Have) == w.N && w.In(f.Have)
}

// Guards is all guards of a description.
func Guards(d api.Desc) [][]api.Span {
	var out [][]api.Span
	for _, r := range d.Rules {
		out = append(out, r.Guards...)
	}
	for _, f := range d.Finals {
		out = append(out, f.Guards...)
	}
	return out
}
