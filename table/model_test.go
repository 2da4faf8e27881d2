package table_test

import (
	"fmt"
	"slices"

	"umlaut/api"
	"umlaut/minterm"
	"umlaut/place"
	"umlaut/span"
	"umlaut/term"
	"umlaut/word"
)

// spot is a place: a state, and classes, as runes.
type spot struct {
	q int
	w string
}

// model is a description's table in the making, by the chapter's words.
type model struct {
	d          api.Desc
	classes    [][]api.Span
	nodes      []spot
	acts, ends []int // the rules and finals told of
	out        api.Table
}

// begin tells whether guards have classes, one by one, as far as both go.
func (m *model) begin(guards [][]api.Span, w []rune) bool {
	for i := range min(len(guards), len(w)) {
		if !span.Within(m.classes[w[i]], guards[i]) {
			return false
		}
	}
	return true
}

// goesOn tells whether a place goes on.
func (m *model) goesOn(q int, w []rune) bool {
	return slices.ContainsFunc(m.d.Rules, func(r api.Rule) bool {
		return r.From == q && len(r.Guards) > len(w) && m.begin(r.Guards, w)
	}) || slices.ContainsFunc(m.d.Finals, func(f api.Final) bool {
		return f.From == q && len(f.Guards) >= len(w) && m.begin(f.Guards, w)
	})
}

// node is the number of a place's node.
func (m *model) node(p spot) int {
	if !slices.Contains(m.nodes, p) {
		m.nodes = append(m.nodes, p)
	}
	return slices.Index(m.nodes, p)
}

// next is a node's Next of a class.
func (m *model) next(q int, w []rune) int {
	for i, r := range m.d.Rules {
		if r.From != q || len(r.Guards) != len(w) || !m.begin(r.Guards, w) {
			continue
		}
		if !slices.Contains(m.acts, i) {
			m.acts = append(m.acts, i)
			m.out.Acts = append(m.out.Acts, api.Act{Eat: r.Eat, To: m.node(spot{q: r.To}), Out: r.Out})
		}
		return -2 - slices.Index(m.acts, i)
	}
	if m.goesOn(q, w) {
		return m.node(spot{q, string(w)})
	}
	return -1
}

// end is a node's End.
func (m *model) end(p spot) int {
	w := []rune(p.w)
	for i, f := range m.d.Finals {
		if f.From != p.q || len(f.Guards) != len(w) || !m.begin(f.Guards, w) {
			continue
		}
		if !slices.Contains(m.ends, i) {
			m.ends = append(m.ends, i)
			m.out.Ends = append(m.out.Ends, f.Out)
		}
		return slices.Index(m.ends, i)
	}
	return -1
}

// compiled is the table of a description from bytes to bytes that is sole, well formed and without epsilon rules; false, if it has too many nodes.
func compiled(d api.Desc) (api.Table, bool) {
	m := &model{d: d, nodes: []spot{{q: d.Start}}}
	m.classes, _ = minterm.Split(word.Domain(api.Bytes), place.Guards(d))
	for x := range m.out.Class {
		m.out.Class[x] = uint8(minterm.Class(m.classes, x))
	}
	for i := 0; i < len(m.nodes) && len(m.nodes) <= api.MaxNodes; i++ {
		p := m.nodes[i]
		n := api.Node{Held: len([]rune(p.w)), End: m.end(p)}
		for c := range m.classes {
			n.Next = append(n.Next, m.next(p.q, append([]rune(p.w), rune(c))))
		}
		m.out.Nodes = append(m.out.Nodes, n)
	}
	return m.out, len(m.nodes) <= api.MaxNodes
}

// driver goes over bytes with a table, by the words of chapter 19.
type driver struct {
	t       api.Table
	node    int
	held    []rune
	out     []rune
	rejects bool
}

// write writes what terms make of a window.
func (d *driver) write(l []api.Term, w []rune) {
	for _, x := range l {
		if v, ok := term.Value(x, w); ok {
			d.out = append(d.out, rune(v&255))
		}
	}
}

// take takes a byte.
func (d *driver) take(x rune) {
	if d.rejects {
		return
	}
	window := append(slices.Clone(d.held), x)
	n := d.t.Nodes[d.node].Next[d.t.Class[x]]
	switch {
	case n == -1:
		d.rejects = true
	case n >= 0:
		d.node, d.held = n, window
	default:
		a := d.t.Acts[-2-n]
		d.write(a.Out, window)
		d.node, d.held = a.To, nil
		for _, y := range window[a.Eat:] {
			d.take(y)
		}
	}
}

// driven is what a table makes of an input; false, if it rejects that.
func driven(t api.Table, x []rune) ([]rune, bool) {
	d := &driver{t: t}
	for _, b := range x {
		d.take(b)
	}
	if d.rejects || t.Nodes[d.node].End < 0 {
		return nil, false
	}
	d.write(t.Ends[t.Nodes[d.node].End], d.held)
	return d.out, true
}

// right tells whether a table is right, by the chapter's words.
func right(t api.Table) bool {
	n := len(t.Nodes)
	if n < 1 || n > api.MaxNodes || len(t.Acts) > api.MaxRules || len(t.Ends) > api.MaxRules || t.Nodes[0].Held != 0 {
		return false
	}
	for _, x := range t.Nodes {
		if len(x.Next) != len(t.Nodes[0].Next) || len(x.Next) < 1 || len(x.Next) > 256 || x.Held < 0 || x.Held > 4 {
			return false
		}
		for _, k := range x.Next {
			if !nextRight(t, x.Held, k) {
				return false
			}
		}
		if x.End != -1 && (x.End < 0 || x.End >= len(t.Ends) || !termsRight(t.Ends[x.End], x.Held)) {
			return false
		}
	}
	for _, c := range t.Class {
		if int(c) >= len(t.Nodes[0].Next) {
			return false
		}
	}
	for _, a := range t.Acts {
		if a.Eat < 1 || a.Eat > 4 || a.To < 0 || a.To >= n || t.Nodes[a.To].Held != 0 || len(a.Out) > api.MaxOut {
			return false
		}
	}
	return !slices.ContainsFunc(t.Ends, func(l []api.Term) bool { return len(l) > api.MaxOut })
}

// nextRight tells whether a number may stand in the Next of a node that holds so many bytes.
func nextRight(t api.Table, held, k int) bool {
	if k == -1 {
		return true
	}
	if k >= 0 {
		return k < len(t.Nodes) && t.Nodes[k].Held == held+1
	}
	k = -2 - k
	return held < 4 && k < len(t.Acts) && t.Acts[k].Eat <= held+1 && termsRight(t.Acts[k].Out, held+1)
}

// termsRight tells whether terms are right, of windows of n bytes.
func termsRight(l []api.Term, n int) bool {
	return !slices.ContainsFunc(l, func(x api.Term) bool { return !term.Right(x, api.Bytes, api.Bytes, n) })
}

// text is a table as a text, of which nil and empty lists are one.
func text(t api.Table) string { return fmt.Sprint(t) }
