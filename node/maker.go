package node

import (
	"slices"

	"umlaut/api"
	"umlaut/desc"
	"umlaut/term"
)

// maker lays what nodes relate, as rules on ways from one state to another. The states between the two are of these rules alone; none of them leads to the first one, unless that is bare, and none from the last one, unless both are one.
type maker struct {
	out  api.Desc
	long bool // there would be more than a description may have
}

// spot is a state from which something is to be laid. It is bare, if nothing else goes on from it: so what is read again and again may lead back to it.
type spot struct {
	state int
	bare  bool
}

// describe is the description of a node that is right.
func describe(n api.Recipe) (api.Desc, api.Errno) {
	m := maker{out: desc.Empty(api.Scalars, api.Scalars)}
	last := m.path([]api.Recipe{n}, spot{m.out.Start, true})
	m.out.Finals = []api.Final{{From: last.state}}
	if m.long {
		return api.Desc{}, api.ErrLong
	}
	return m.out, api.OK
}

// state is a new state.
func (m *maker) state() int {
	if m.out.States == api.MaxStates {
		m.long = true
		return m.out.Start
	}
	m.out.States++
	return m.out.States - 1
}

// rule lays a rule that reads a symbol of a set and eats it, or, of an empty set, reads nothing.
func (m *maker) rule(from, to int, set []api.Span, out ...api.Term) {
	if len(m.out.Rules) == api.MaxRules {
		m.long = true
		return
	}
	r := api.Rule{From: from, To: to, Out: out}
	if len(set) > 0 {
		r.Guards, r.Eat = [][]api.Span{slices.Clone(set)}, 1
	}
	m.out.Rules = append(m.out.Rules, r)
}

// path lays nodes, one behind the other, and answers where they end.
func (m *maker) path(l []api.Recipe, at spot) spot {
	for _, n := range l {
		switch n.Kind {
		case api.KCat:
			at = m.path(n.L, at)
		case api.KMany:
			at = m.loop(n.L, at)
		default:
			next := m.state()
			m.node(n, at, next)
			at = spot{next, true}
		}
	}
	return at
}

// loop lays what nodes, one behind the other, read again and again, and answers where that ends.
func (m *maker) loop(l []api.Recipe, at spot) spot {
	hub := at.state
	if !at.bare {
		hub = m.state()
		m.rule(at.state, hub, nil)
	}
	m.row(l, spot{state: hub}, hub)
	return spot{state: hub}
}

// row lays nodes, one behind the other, up to a state.
func (m *maker) row(l []api.Recipe, at spot, to int) {
	last := len(l) - 1
	if last >= 0 && l[last].Kind != api.KMany {
		m.node(l[last], m.path(l[:last], at), to)
		return
	}
	m.rule(m.path(l, at).state, to, nil)
}

// node lays a node up to a state.
func (m *maker) node(n api.Recipe, at spot, to int) {
	switch n.Kind {
	case api.KCopy:
		m.rule(at.state, to, n.Set, term.Copy(0, n.By))
	case api.KDrop:
		m.rule(at.state, to, n.Set)
	case api.KPair:
		m.pair(n.Read, n.Write, at.state, to)
	case api.KCat:
		m.row(n.L, at, to)
	case api.KAlt:
		for _, x := range n.L {
			m.node(x, spot{state: at.state}, to)
		}
	case api.KMany:
		m.row([]api.Recipe{n}, at, to)
	}
}

// pair lays a word that is read, symbol by symbol, and one that is written, spread over as many rules.
func (m *maker) pair(read, write []rune, from, to int) {
	steps := max(1, len(read), (len(write)+api.MaxOut-1)/api.MaxOut)
	for i := range steps {
		next := to
		if i < steps-1 {
			next = m.state()
		}
		var set []api.Span
		if i < len(read) {
			set = []api.Span{{Lo: int(read[i]), Hi: int(read[i])}}
		}
		m.rule(from, next, set, consts(write[i*len(write)/steps:(i+1)*len(write)/steps])...)
		from = next
	}
}

// consts is the terms that write a word.
func consts(w []rune) []api.Term {
	var out []api.Term
	for _, x := range w {
		out = append(out, term.Const(x))
	}
	return out
}
