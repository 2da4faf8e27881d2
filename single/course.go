package single

import (
	"iter"
	"slices"

	"umlaut/api"
	"umlaut/span"
)

// course is two descriptions that go over one input together: they come to pairs of states, and to a place at each pair.
type course struct {
	letters
	store  *store
	sides  [2]*machine
	left   []int // of each pair, how many symbols are to be read at least till both may end; none, if they never may
	number []int // of each pair, the number of its place; none, if they haven't come to it
	places []place
}

// place is a pair, the first lead that was found there, and how the two came with that.
type place struct {
	pair int
	lead
	from  int // the number of the place ahead
	rules [2]*rule
}

// newCourse is two descriptions that read one symbol at a time.
func newCourse(a, b api.Desc) *course {
	c := &course{letters: newLetters(), store: newStore()}
	c.sides = [2]*machine{newMachine(a, c.letters, c.store), newMachine(b, c.letters, c.store)}
	c.number = slices.Repeat([]int{none}, a.States*b.States)
	c.toEnd()
	return c
}

// pair is the number of two states.
func (c *course) pair(q [2]int) int {
	return q[0]*len(c.sides[1].rules) + q[1]
}

// states is the two states of a pair.
func (c *course) states(pair int) [2]int {
	n := len(c.sides[1].rules)
	return [2]int{pair / n, pair % n}
}

// toEnd finds of all pairs how many symbols are left, from the end on.
func (c *course) toEnd() {
	c.left = slices.Repeat([]int{none}, len(c.number))
	var pairs []int
	for p := range c.left {
		if q := c.states(p); len(c.sides[0].ends[q[0]]) > 0 && len(c.sides[1].ends[q[1]]) > 0 {
			c.left[p] = 0
			pairs = append(pairs, p)
		}
	}
	for i := 0; i < len(pairs); i++ {
		q := c.states(pairs[i])
		for _, r := range c.sides[0].into[q[0]] {
			for _, s := range c.sides[1].into[q[1]] {
				from := c.pair([2]int{r.from, s.from})
				if c.left[from] == none && span.Meets(r.guard, s.guard) {
					c.left[from] = c.left[pairs[i]] + 1
					pairs = append(pairs, from)
				}
			}
		}
	}
}

// meetings goes through the meetings of a pair behind which both may come to an end.
func (c *course) meetings(pair int) iter.Seq[*meeting] {
	q := c.states(pair)
	return func(yield func(*meeting) bool) {
		for _, r := range c.sides[0].rules[q[0]] {
			for _, s := range c.sides[1].rules[q[1]] {
				to := c.pair([2]int{r.to, s.to})
				if c.left[to] == none || !span.Meets(r.guard, s.guard) {
					continue
				}
				if !yield(&meeting{rules: [2]*rule{r, s}, to: to}) {
					return
				}
			}
		}
	}
}

// verdict is what is told of the two. To each pair there is one lead, however the two come there: behind two unlike ones, whatever follows, they write unlike things at least once.
func (c *course) verdict() api.Verdict {
	c.come(place{pair: c.pair([2]int{c.sides[0].start, c.sides[1].start}), from: none})
	for i := 0; i < len(c.places); i++ {
		if v, ok := c.end(i); ok {
			return v
		}
		for m := range c.meetings(c.places[i].pair) {
			if v, ok := c.follow(i, m); ok {
				return v
			}
		}
	}
	return api.Verdict{Kind: api.VYes}
}

// come puts a place behind the others.
func (c *course) come(p place) {
	c.number[p.pair] = len(c.places)
	c.places = append(c.places, p)
}

// follow goes on from a place with a meeting, and tells what tells the two apart, if that does.
func (c *course) follow(i int, m *meeting) (api.Verdict, bool) {
	next, told := c.after(c.places[i].lead, m)
	if len(told) > 0 {
		var ways [][]step
		for _, x := range told {
			ways = append(ways, append(c.wayTo(i), step{m.rules, x}))
		}
		return c.apart(m.to, ways...), true
	}
	k := c.number[m.to]
	if k == none {
		c.come(place{pair: m.to, lead: next, from: i, rules: m.rules})
		return api.Verdict{}, false
	}
	if c.store.sameLead(next, c.places[k].lead) {
		return api.Verdict{}, false
	}
	return c.apart(m.to, c.wayTo(k), append(c.wayTo(i), stepOf(m.rules))), true
}

// end tells what tells the two apart, if they end at a place and that does.
func (c *course) end(i int) (api.Verdict, bool) {
	p := c.places[i]
	q := c.states(p.pair)
	left, right := c.sides[0].ends[q[0]], c.sides[1].ends[q[1]]
	// If each one goes with the first one of the other side, all do with all.
	for k := range max(len(left), len(right)) {
		for _, ends := range [...][2]int{{k, 0}, {0, k}} {
			if ends[0] >= len(left) || ends[1] >= len(right) {
				continue
			}
			if l := [2][]rune{left[ends[0]], right[ends[1]]}; !c.store.endAlike(p.lead, l) {
				return c.tell(c.wayTo(i), l), true
			}
		}
	}
	return api.Verdict{}, false
}
