package look

import (
	"iter"
	"slices"

	"umlaut/api"
	"umlaut/bitset"
	"umlaut/place"
)

// stop is where steps from a place come by as they take rules, or where they end: a state, and how many blocks are left, the last ones of those that the place holds and the one that is read.
type stop struct {
	state, left int
	come        bitset.Set // the blocks that may be read to come by
	on          bitset.Set // those of them with which a step ends there, as that place goes on
	fruitful    bitset.Set // the blocks with which, if they come by, a step ends there or farther on
}

// sweep is all steps from a place, with all blocks at once: a state's rules are gone through once for all of them, however many ways there are.
type sweep struct {
	*place.Machine
	from   place.Place
	levels [api.MaxWindow + 1][]*stop // the stops where so many blocks are left
	at     [api.MaxWindow + 1][]*stop // the same ones by their states; nil, where there is none
}

// newSweep is the steps from a place that holds less than a whole window.
func newSweep(m *place.Machine, from place.Place) *sweep {
	s := &sweep{Machine: m, from: from}
	first := from.N + 1
	for left := range first + 1 {
		s.at[left] = make([]*stop, len(m.Rules))
	}
	s.come(from.State, first).come.Lay(m.Every, m.Every)
	// Each rule eats something: so all that leads to a stop comes ahead of it, and what it leads to behind.
	for left := first; left >= 0; left-- {
		for _, x := range s.levels[left] {
			s.forward(x)
		}
	}
	for left := range first + 1 {
		for _, x := range s.levels[left] {
			s.backward(x)
		}
	}
	return s
}

// first is the stop of a block that was read and nothing eaten.
func (s *sweep) first() *stop {
	return s.at[s.from.N+1][s.from.State]
}

// come is the stop of a state and so many blocks left.
func (s *sweep) come(state, left int) *stop {
	x := s.at[left][state]
	if x == nil {
		n := len(s.Blocks)
		x = &stop{state, left, bitset.New(n), bitset.New(n), bitset.New(n)}
		s.at[left][state] = x
		s.levels[left] = append(s.levels[left], x)
	}
	return x
}

// forward finds where one comes from a stop, and with which blocks its place goes on.
func (s *sweep) forward(x *stop) {
	for i, with := range s.taken(x) {
		r := s.Rules[x.state][i]
		s.come(r.To, x.left-r.Eat).come.Lay(x.come, with)
	}
	for _, r := range s.Rules[x.state] {
		if len(r.Have) > x.left {
			x.on.Lay(x.come, s.fit(r.Have, x.left))
		}
	}
	for _, f := range s.Finals[x.state] {
		if len(f.Have) >= x.left {
			x.on.Lay(x.come, s.fit(f.Have, x.left))
		}
	}
}

// backward finds with which blocks steps end at a stop or farther on; of all stops behind it that is known.
func (s *sweep) backward(x *stop) {
	x.fruitful.Lay(x.on, x.on)
	for i, with := range s.taken(x) {
		x.fruitful.Lay(with, s.behind(x, s.Rules[x.state][i]).fruitful)
	}
}

// behind is the stop to which a rule leads from one.
func (s *sweep) behind(x *stop, r place.Rule) *stop {
	return s.at[x.left-r.Eat][r.To]
}

// taken goes through the rules of a stop's state that may be taken there, and tells the blocks with which each of them is.
func (s *sweep) taken(x *stop) iter.Seq2[int, bitset.Set] {
	// Where nothing was eaten yet a rule of fewer guards isn't taken: it was, when its last block was read.
	fewest := 1
	if x == s.first() {
		fewest = x.left
	}
	return func(yield func(int, bitset.Set) bool) {
		for i, r := range s.Rules[x.state] {
			n := len(r.Have)
			if n < fewest || n > x.left {
				continue
			}
			if with := s.fit(r.Have, x.left); with != nil && !yield(i, with) {
				return
			}
		}
	}
}

// fit is the blocks with which guards have what is left, as far as both go.
func (s *sweep) fit(have []bitset.Set, left int) bitset.Set {
	if left == 0 {
		return s.Every
	}
	if !s.from.Last(left - 1).In(have) {
		return nil
	}
	if len(have) < left {
		return s.Every
	}
	return have[left-1]
}

// held is what is held at a stop, a block having been read.
func (s *sweep) held(x *stop, block int) place.Word {
	if x.left == 0 {
		return place.Word{}
	}
	return s.from.Last(x.left - 1).With(block)
}

// ends goes through the places at which steps end.
func (s *sweep) ends() iter.Seq[place.Place] {
	return func(yield func(place.Place) bool) {
		for _, x := range slices.Concat(s.levels[:]...) {
			for b := range x.on.Each() {
				if !yield(place.Place{State: x.state, Word: s.held(x, b)}) {
					return
				}
				// With nothing left all blocks lead to one place.
				if x.left == 0 {
					break
				}
			}
		}
	}
}
