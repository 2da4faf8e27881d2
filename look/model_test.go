package look_test

import (
	"fmt"
	"slices"

	"umlaut/api"
	"umlaut/desc"
	"umlaut/part"
	"umlaut/span"
	"umlaut/term"
	"umlaut/word"
)

// model is a description without epsilon rules, and its places, by the chapter's words.
type model struct {
	d      api.Desc
	blocks [][]api.Span
	places []spot
	out    api.Desc // what Eliminate is to answer
}

// spot is a place: a state, and blocks, as runes.
type spot struct {
	q int
	w string
}

// step is where a step leads, and what it writes.
type step struct {
	to  spot
	out []api.Term
}

// keeping is a part that is kept, and the guard of its place.
type keeping struct {
	p     api.Part
	guard []api.Span
}

// keepings is all of them.
func keepings(d api.Desc) []keeping {
	var l []keeping
	far := false
	for _, r := range d.Rules {
		far = far || len(r.Guards)-r.Eat >= 2
	}
	for _, r := range d.Rules {
		for _, x := range r.Out {
			for _, p := range x.Parts {
				if p.At != len(r.Guards)-1 || far {
					l = append(l, keeping{p, r.Guards[p.At]})
				}
			}
		}
	}
	for _, f := range d.Finals {
		for _, x := range f.Out {
			for _, p := range x.Parts {
				l = append(l, keeping{p, f.Guards[p.At]})
			}
		}
	}
	return l
}

// guards is all guards of a description.
func guards(d api.Desc) [][]api.Span {
	var l [][]api.Span
	for _, r := range d.Rules {
		l = append(l, r.Guards...)
	}
	for _, f := range d.Finals {
		l = append(l, f.Guards...)
	}
	return l
}

// cuts is numbers, rising, such that nothing tells the symbols apart that lie from one to ahead of the next one; false, if they are very many.
func cuts(d api.Desc) ([]int, bool) {
	var l []int
	for _, g := range append(guards(d), word.Domain(d.In)) {
		for _, r := range g {
			l = append(l, r.Lo, r.Hi+1)
		}
	}
	for _, k := range keepings(d) {
		if span.Count(k.guard) > 2000 {
			return nil, false
		}
		for x := range span.Each(k.guard) {
			l = append(l, x)
		}
	}
	slices.Sort(l)
	return slices.Compact(l), true
}

// blocks is the blocks; ErrLong, beyond a limit. (A part that keeps more than 2000 symbols must take all of them apart.)
func blocks(d api.Desc) ([][]api.Span, api.Errno) {
	l, ok := cuts(d)
	if !ok {
		return nil, api.ErrLong
	}
	place := map[string]int{}
	var out [][]api.Span
	for i, x := range l {
		if !word.In(d.In, rune(x)) {
			continue
		}
		var sign []int
		for i, g := range guards(d) {
			if span.Has(g, x) {
				sign = append(sign, i)
			}
		}
		for _, k := range keepings(d) {
			if span.Has(k.guard, x) {
				v, _ := part.Value(k.p, x)
				sign = append(sign, -v)
			}
		}
		key := fmt.Sprint(sign)
		k, ok := place[key]
		if !ok {
			k = len(out)
			place[key] = k
			out = append(out, nil)
		}
		out[k] = span.Union(out[k], []api.Span{{Lo: x, Hi: l[i+1] - 1}})
	}
	if len(out) > api.MaxBlocks || slices.ContainsFunc(out, func(b []api.Span) bool { return len(b) > api.MaxSpans }) {
		return nil, api.ErrLong
	}
	return out, api.OK
}

// least is the least symbols of blocks.
func (m *model) least(w []rune) []rune {
	var l []rune
	for _, b := range w {
		l = append(l, rune(m.blocks[b][0].Lo))
	}
	return l
}

// begin tells whether guards have blocks, one by one, as far as both go.
func (m *model) begin(guards [][]api.Span, w []rune) bool {
	for i, x := range m.least(w) {
		if i < len(guards) && !span.Has(guards[i], int(x)) {
			return false
		}
	}
	return true
}

// goesOn tells whether a place goes on.
func (m *model) goesOn(q int, w []rune) bool {
	return slices.ContainsFunc(m.d.Rules, func(r api.Rule) bool {
		return r.From == q && len(r.Guards) > len(w) && m.begin(r.Guards, w)
	}) || slices.ContainsFunc(m.d.Finals, func(f api.Final) bool {
		return f.From == q && len(f.Guards) >= len(w) && m.begin(f.Guards, w)
	})
}

// steps is the steps from a place with a block, in their order.
func (m *model) steps(p spot, b int) []step {
	all := append([]rune(p.w), rune(b))
	var l []step
	var on func(q int, w []rune, out []api.Term, exact bool)
	on = func(q int, w []rune, out []api.Term, exact bool) {
		if m.goesOn(q, w) {
			l = append(l, step{spot{q, string(w)}, out})
		}
		for _, r := range m.d.Rules {
			if n := len(r.Guards); r.From != q || n > len(w) || exact && n < len(w) || !m.begin(r.Guards, w) {
				continue
			}
			known, at := m.least(w[:len(r.Guards)]), -1
			if len(r.Guards) == len(w) {
				at = len(w) - 1
			}
			more := slices.Clone(out)
			for _, x := range r.Out {
				more = append(more, term.Bind(x, known, at))
			}
			on(r.To, w[r.Eat:], more, false)
		}
	}
	on(p.q, all, nil, true)
	return l
}

// newModel is the places of a description, and what comes of them; not all of them, if they are too many.
func newModel(d api.Desc) (*model, api.Errno) {
	b, e := blocks(d)
	if e != api.OK {
		return nil, e
	}
	m := &model{d: d, blocks: b, places: []spot{{q: d.Start}}}
	m.out = api.Desc{In: d.In, Out: d.Out}
	number := map[spot]int{m.places[0]: 0}
	for i := 0; i < len(m.places) && len(m.places) <= api.MaxStates; i++ {
		p := m.places[i]
		for b := range m.blocks {
			for _, s := range m.steps(p, b) {
				to, ok := number[s.to]
				if !ok {
					to = len(m.places)
					number[s.to] = to
					m.places = append(m.places, s.to)
				}
				m.out.Rules = append(m.out.Rules, api.Rule{From: i, To: to, Guards: [][]api.Span{m.blocks[b]}, Eat: 1, Out: s.out})
			}
		}
		for _, f := range d.Finals {
			if w := []rune(p.w); f.From == p.q && len(f.Guards) == len(w) && m.begin(f.Guards, w) {
				last := api.Final{From: i}
				for _, x := range f.Out {
					last.Out = append(last.Out, term.Bind(x, m.least(w), -1))
				}
				m.out.Finals = append(m.out.Finals, last)
			}
		}
	}
	m.out.States = len(m.places)
	return m, api.OK
}

// fitsLimits tells whether what Eliminate is to answer is within the limits.
func (m *model) fitsLimits() bool {
	return len(m.out.Rules) <= api.MaxRules && len(m.out.Finals) <= api.MaxRules && desc.Longest(m.out) <= api.MaxOut
}
