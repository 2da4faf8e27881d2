package look

import (
	"umlaut/api"
	"umlaut/minterm"
	"umlaut/states"
)

// machine is a description whose guards are told by blocks.
type machine struct {
	blocks [][]api.Span
	least  []int // the least symbol of each block
	every  set   // all blocks
	rules  [][]rule
	finals [][]final
}

// rule is a rule of a state, and the blocks of each of its guards.
type rule struct {
	api.Rule
	have []set
}

// final is a final of a state, and the blocks of each of its guards.
type final struct {
	api.Final
	have []set
}

// newMachine is a description and its blocks.
func newMachine(d api.Desc, blocks [][]api.Span) *machine {
	m := &machine{blocks: blocks, least: minterm.Least(blocks), every: newSet(len(blocks))}
	for b := range blocks {
		m.every.put(b)
	}
	var rules []rule
	for _, r := range d.Rules {
		rules = append(rules, rule{r, m.sets(r.Guards)})
	}
	var finals []final
	for _, f := range d.Finals {
		finals = append(finals, final{f, m.sets(f.Guards)})
	}
	m.rules = states.By(rules, d.States, func(r rule) int { return r.From })
	m.finals = states.By(finals, d.States, func(f final) int { return f.From })
	return m
}

// sets is the blocks of each guard.
func (m *machine) sets(guards [][]api.Span) []set {
	var out []set
	for _, g := range guards {
		out = append(out, m.within(g))
	}
	return out
}

// within is the blocks of which a guard is made; it is plain, and the blocks' least symbols rise.
func (m *machine) within(guard []api.Span) set {
	out := newSet(len(m.blocks))
	for b, x := range m.least {
		for len(guard) > 0 && guard[0].Hi < x {
			guard = guard[1:]
		}
		if len(guard) > 0 && guard[0].Lo <= x {
			out.put(b)
		}
	}
	return out
}

// symbols is the least symbols of the blocks that are held.
func (m *machine) symbols(h held) []rune {
	var out []rune
	for _, b := range h.blocks[:h.n] {
		out = append(out, rune(m.least[b]))
	}
	return out
}
