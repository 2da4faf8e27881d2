package run

import (
	"iter"
	"slices"

	"umlaut/api"
	"umlaut/span"
	"umlaut/states"
	"umlaut/term"
)

// course is all places of a transducer and an input: each is a state and how much of the input is gone; one more, behind them, is the end.
type course struct {
	d      api.Desc
	x      []rune
	rules  [][]api.Rule
	finals [][]api.Final
	late   []int // the states, each behind those to which its epsilon rules lead
	least  []int // of each place, the fewest symbols that are written on a way to it from the start; -1, if there is none
}

// move is what may be done at a place: terms are written, of a window, and that leads to a place behind it.
type move struct {
	terms  []api.Term
	window []rune
	to     int
}

// newCourse is the course of a well-formed description and an input of its sort.
func newCourse(d api.Desc, x []rune) *course {
	c := &course{
		d:      d,
		x:      x,
		rules:  states.By(d.Rules, d.States, states.OfRule),
		finals: states.By(d.Finals, d.States, states.OfFinal),
	}
	c.late = states.Late(c.rules)
	c.least = slices.Repeat([]int{-1}, c.end()+1)
	c.least[d.Start] = 0
	c.fromStart()
	return c
}

// place is the number of a place.
func (c *course) place(gone, q int) int {
	return gone*c.d.States + q
}

// end is the number of the end.
func (c *course) end() int {
	return c.place(len(c.x)+1, 0)
}

// comes tells whether a way leads to a place.
func (c *course) comes(p int) bool {
	return c.least[p] >= 0
}

// fromStart finds the least symbols of all places.
func (c *course) fromStart() {
	for gone := range len(c.x) + 1 {
		for _, q := range slices.Backward(c.late) {
			p := c.place(gone, q)
			if !c.comes(p) {
				continue
			}
			for m := range c.moves(gone, q) {
				n := c.least[p] + len(m.terms)
				if !c.comes(m.to) || n < c.least[m.to] {
					c.least[m.to] = n
				}
			}
		}
	}
}

// fromEnd tells the places to which ways lead, and their moves, each place ahead of those from which moves lead to it, as long as it is answered true: was it always?
func (c *course) fromEnd(tell func(p int, moves iter.Seq[move]) bool) bool {
	for gone := len(c.x); gone >= 0; gone-- {
		for _, q := range c.late {
			p := c.place(gone, q)
			if c.comes(p) && !tell(p, c.moves(gone, q)) {
				return false
			}
		}
	}
	return true
}

// slots is how much room there must be to keep something of the places that are told from the end on, as long as moves may lead to them.
func (c *course) slots() int {
	// From a place moves lead over as many symbols as a window has, or, ahead of the end, over one more.
	return (api.MaxWindow + 2) * c.d.States
}

// slot is where in that room something of a place is kept.
func (c *course) slot(p int) int {
	return p % c.slots()
}

// moves is what may be done where so much of the input is gone, in a state.
func (c *course) moves(gone, q int) iter.Seq[move] {
	left := c.x[gone:]
	return func(yield func(move) bool) {
		for _, r := range c.rules[q] {
			if !begins(r.Guards, left) {
				continue
			}
			if !yield(move{r.Out, left[:len(r.Guards)], c.place(gone+r.Eat, r.To)}) {
				return
			}
		}
		for _, f := range c.finals[q] {
			if len(f.Guards) != len(left) || !begins(f.Guards, left) {
				continue
			}
			if !yield(move{f.Out, left, c.end()}) {
				return
			}
		}
	}
}

// begins tells whether a window of guards begins what is left.
func begins(guards [][]api.Span, left []rune) bool {
	if len(guards) > len(left) {
		return false
	}
	for i, g := range guards {
		if !span.Has(g, int(left[i])) {
			return false
		}
	}
	return true
}

// written is what a move writes.
func (m move) written() []rune {
	out := make([]rune, len(m.terms))
	for i, t := range m.terms {
		// A term of a well-formed description has a value of each window of its guards.
		x, _ := term.Value(t, m.window)
		out[i] = rune(x)
	}
	return out
}
