package look

import (
	"slices"

	"umlaut/api"
	"umlaut/fresh"
	"umlaut/place"
	"umlaut/roll"
	"umlaut/term"
)

// layout is the description that is made of a machine, with its places as they come.
type layout struct {
	*place.Machine
	places *roll.Roll[place.Place]
	out    api.Desc
}

// lay lays the rules and finals of all places; false, if that is beyond a limit.
func (l *layout) lay() bool {
	for i := 0; i < len(l.places.Items); i++ {
		if !l.layRules(i) || !l.layFinals(i) {
			return false
		}
	}
	l.out.States = len(l.places.Items)
	return true
}

// layRules lays the rules of all steps from a place; false, if that is beyond a limit.
func (l *layout) layRules(from int) bool {
	p := l.places.Items[from]
	if p.N == api.MaxWindow {
		return true
	}
	s := newSweep(l.Machine, p)
	for b := range s.first().fruitful.Each() {
		r := api.Rule{From: from, Guards: [][]api.Span{l.Blocks[b]}, Eat: 1}
		if !l.layBehind(s, s.first(), b, r) {
			return false
		}
	}
	return true
}

// layBehind lays the rules of the steps that come by a stop with a block, as one that has written what they did: of the one that ends there, and of those that go on by one of the rules; false, if that is beyond a limit.
func (l *layout) layBehind(s *sweep, x *stop, block int, r api.Rule) bool {
	// No way leads here that isn't a step's: so one would write as much.
	if len(r.Out) > api.MaxOut {
		return false
	}
	here := s.held(x, block)
	if x.on.Has(block) && !l.layRule(r, place.Place{State: x.state, Word: here}) {
		return false
	}
	for i, with := range s.taken(x) {
		taken := l.Rules[x.state][i]
		to := s.behind(x, taken)
		if !with.Has(block) || !to.fruitful.Has(block) {
			continue
		}
		next := r
		next.Out = slices.Concat(r.Out, l.bound(taken.Out, here, here.N-1))
		if !l.layBehind(s, to, block, next) {
			return false
		}
	}
	return true
}

// layRule lays the rule of a step that ends at a place; false, if there are too many.
func (l *layout) layRule(r api.Rule, to place.Place) bool {
	if len(l.out.Rules) == api.MaxRules {
		return false
	}
	r.To, r.Guards, r.Out = l.places.Put(to), fresh.Guards(r.Guards), fresh.Terms(r.Out)
	l.out.Rules = append(l.out.Rules, r)
	return true
}

// layFinals lays the finals of a place; false, if there are too many.
func (l *layout) layFinals(from int) bool {
	p := l.places.Items[from]
	for _, f := range l.Finals[p.State] {
		if !f.Ends(p.Word) {
			continue
		}
		if len(l.out.Finals) == api.MaxRules {
			return false
		}
		// Behind all that is held there stands no symbol: so none is left open.
		l.out.Finals = append(l.out.Finals, api.Final{From: from, Out: l.bound(f.Out, p.Word, p.N)})
	}
	return true
}

// bound is terms of windows that begin what is held, bound to the least symbols of its blocks, but for the symbol at a place.
func (l *layout) bound(terms []api.Term, held place.Word, at int) []api.Term {
	w := l.symbols(held)
	var out []api.Term
	for _, t := range terms {
		out = append(out, term.Bind(t, w, at))
	}
	return out
}

// symbols is the least symbols of the blocks that are held.
func (l *layout) symbols(held place.Word) []rune {
	var out []rune
	for _, b := range held.Blocks[:held.N] {
		out = append(out, rune(l.Least[b]))
	}
	return out
}
