package look

import (
	"iter"
	"slices"

	"umlaut/api"
)

// stop is where steps from a place come by as they take rules, or where they end: a state, and how many blocks are left, the last ones of those that the place holds and the one that is read.
type stop struct {
	state, left int
	come        set // the blocks that may be read to come by
	on          set // those of them with which a step ends there, as that place goes on
	fruitful    set // the blocks with which, if they come by, a step ends there or farther on
}

// sweep is all steps from a place, with all blocks at once: a state's rules are gone through once for all of them, however many ways there are.
type sweep struct {
	*machine
	from   place
	levels [api.MaxWindow + 1][]*stop // the stops where so many blocks are left
	at     [api.MaxWindow + 1][]*stop // the same ones by their states; nil, where there is none
}

// newSweep is the steps from a place that holds less than a whole window.
func newSweep(m *machine, from place) *sweep {
	s := &sweep{machine: m, from: from}
	first := from.n + 1
	for left := range first + 1 {
		s.at[left] = make([]*stop, len(m.rules))
	}
	s.come(from.state, first).come.lay(m.every, m.every)
	// Each rule eats something: so all that leads to a stop comes ahead of it, and what it leads to behind.
	for left := first; left >= 0; left-- {
		for _, x := range s.levels[left] {
			s.forward(x)
		}
	}
	for left := range first + 1 {
		for _, x := range s.levels[left] {
			s.backward(x)
		}
	}
	return s
}

// first is the stop of a block that was read and nothing eaten.
func (s *sweep) first() *stop {
	return s.at[s.from.n+1][s.from.state]
}

// come is the stop of a state and so many blocks left.
func (s *sweep) come(state, left int) *stop {
	x := s.at[left][state]
	if x == nil {
		n := len(s.blocks)
		x = &stop{state, left, newSet(n), newSet(n), newSet(n)}
		s.at[left][state] = x
		s.levels[left] = append(s.levels[left], x)
	}
	return x
}

// forward finds where one comes from a stop, and with which blocks its place goes on.
func (s *sweep) forward(x *stop) {
	for i, with := range s.taken(x) {
		r := s.rules[x.state][i]
		s.come(r.To, x.left-r.Eat).come.lay(x.come, with)
	}
	for _, r := range s.rules[x.state] {
		if len(r.have) > x.left {
			x.on.lay(x.come, s.fit(r.have, x.left))
		}
	}
	for _, f := range s.finals[x.state] {
		if len(f.have) >= x.left {
			x.on.lay(x.come, s.fit(f.have, x.left))
		}
	}
}

// backward finds with which blocks steps end at a stop or farther on; of all stops behind it that is known.
func (s *sweep) backward(x *stop) {
	x.fruitful.lay(x.on, x.on)
	for i, with := range s.taken(x) {
		x.fruitful.lay(with, s.behind(x, s.rules[x.state][i]).fruitful)
	}
}

// behind is the stop to which a rule leads from one.
func (s *sweep) behind(x *stop, r rule) *stop {
	return s.at[x.left-r.Eat][r.To]
}

// taken goes through the rules of a stop's state that may be taken there, and tells the blocks with which each of them is.
func (s *sweep) taken(x *stop) iter.Seq2[int, set] {
	// Where nothing was eaten yet a rule of fewer guards isn't taken: it was, when its last block was read.
	fewest := 1
	if x == s.first() {
		fewest = x.left
	}
	return func(yield func(int, set) bool) {
		for i, r := range s.rules[x.state] {
			n := len(r.have)
			if n < fewest || n > x.left {
				continue
			}
			if with := s.fit(r.have, x.left); with != nil && !yield(i, with) {
				return
			}
		}
	}
}

// fit is the blocks with which guards have what is left, as far as both go.
func (s *sweep) fit(have []set, left int) set {
	if left == 0 {
		return s.every
	}
	known := s.from.blocks[s.from.n-(left-1) : s.from.n]
	for i, b := range known[:min(len(known), len(have))] {
		if !have[i].has(b) {
			return nil
		}
	}
	if len(have) < left {
		return s.every
	}
	return have[left-1]
}

// held is what is held at a stop, a block having been read.
func (s *sweep) held(x *stop, block int) held {
	if x.left == 0 {
		return held{}
	}
	return s.from.last(x.left - 1).with(block)
}

// ends goes through the places at which steps end.
func (s *sweep) ends() iter.Seq[place] {
	return func(yield func(place) bool) {
		for _, x := range slices.Concat(s.levels[:]...) {
			for b := range x.on.each() {
				if !yield(place{x.state, s.held(x, b)}) {
					return
				}
				// With nothing left all blocks lead to one place.
				if x.left == 0 {
					break
				}
			}
		}
	}
}
