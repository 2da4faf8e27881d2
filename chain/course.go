package chain

import (
	"slices"

	"umlaut/api"
	"umlaut/box"
	"umlaut/span"
	"umlaut/states"
	"umlaut/term"
)

// second is the description that stands behind the other one.
type second struct {
	readers []readers // of each state
	finals  [][]api.Final
	store   *store // of what it writes
	left    int    // how much more may be done
}

// mostDone is how many spans may be gone through. What takes more counts as too great: so it ends soon, too, where nearly all that is tried comes to nothing.
const mostDone = 1 << 27

// newSecond makes a description ready to stand behind another one.
func newSecond(d api.Desc) *second {
	out := &second{store: newStore(), left: mostDone}
	for _, l := range states.By(d.Rules, d.States, states.OfRule) {
		out.readers = append(out.readers, readersOf(l))
	}
	out.finals = states.By(d.Finals, d.States, states.OfFinal)
	return out
}

// spend tells whether so much more may be done.
func (s *second) spend(n int) bool {
	s.left -= n
	return s.left >= 0
}

// course is a rule or final of the first description, and what the second one does with what that writes.
type course struct {
	behind *second
	guards window
	terms  []api.Term
	ends   bool // a final: only where the second one may end, too, there is something
	images [][]api.Span
	stops  map[place]*stop
}

// place is how many of a course's terms are read, and the state that the second description is in.
type place struct{ read, state int }

// stop is how it goes on from a place, to the last of the terms.
type stop struct {
	open  bool   // it does, of some windows
	whole bool   // it may, of all windows of the course
	rest  window // a box that has all of which it does
	ways  []way
}

// way is a rule that is taken: of which windows, what it writes of them, and where it leads.
type way struct {
	window window
	whole  bool // of all windows of the course
	out    []int
	to     int
}

// strand is where the second description has come to, and what it has written.
type strand struct{ state, out int }

// newCourse is a course of which nothing is known yet.
func newCourse(behind *second, guards window, terms []api.Term, ends bool) *course {
	c := &course{behind: behind, guards: guards, terms: terms, ends: ends, stops: map[place]*stop{}}
	c.images = make([][]api.Span, len(terms))
	return c
}

// image is what a term may write.
func (c *course) image(i int) []api.Span {
	if c.images[i] == nil {
		c.images[i], _ = term.Image(c.terms[i], c.guards)
	}
	return c.images[i]
}

// stop is the stop at a place.
func (c *course) stop(p place) *stop {
	if s, ok := c.stops[p]; ok {
		return s
	}
	s := &stop{}
	if p.read == len(c.terms) {
		s.open = !c.ends || len(c.behind.finals[p.state]) > 0
		s.whole, s.rest = true, c.guards
	} else {
		c.goOn(s, p)
	}
	c.stops[p] = s
	return s
}

// goOn finds the ways that go on from a place.
func (c *course) goOn(s *stop, p place) {
	rules, n := c.behind.readers[p.state].of(c.image(p.read))
	if !c.behind.spend(n + perBox) {
		return
	}
	for _, r := range rules {
		next := c.stop(place{p.read + 1, r.To})
		if c.behind.left < 0 {
			return
		}
		if next.open {
			c.take(s, p.read, r, next)
		}
	}
}

// take finds the ways that begin with a rule.
func (c *course) take(s *stop, read int, r api.Rule, next *stop) {
	t := c.terms[read]
	boxes, whole := []window{next.rest}, next.whole
	if !span.Within(c.image(read), r.Guards[0]) {
		boxes, whole = c.boxes(t, next.rest, r.Guards[0]), false
	}
	for _, w := range boxes {
		s.reach(w, whole)
		l := raise(t, r.Out, w)
		for _, x := range l {
			s.ways = append(s.ways, way{window: x.window, whole: whole && len(l) == 1, out: c.behind.store.numbers(x.out), to: r.To})
		}
	}
}

// boxes is the windows, out of a box, of which a term's value is in a set; none, if too much is done.
func (c *course) boxes(t api.Term, w window, set []api.Span) []window {
	boxes, e := box.Boxes(t, w, set)
	if e != api.OK {
		c.behind.left = 0
	}
	if !c.behind.spend((size(w) + len(set) + size(boxes...)) * (1 + len(t.Parts))) {
		return nil
	}
	return boxes
}

// reach makes a stop's box have a box's windows, too, which may be all of the course.
func (s *stop) reach(w window, whole bool) {
	if s.whole {
		return
	}
	if !s.open || whole {
		s.open, s.whole, s.rest = true, whole, w
		return
	}
	rest := slices.Clone(s.rest)
	for i, g := range w {
		if !span.Within(g, rest[i]) {
			rest[i] = span.Union(rest[i], g)
		}
	}
	s.rest = rest
}

// strands is what comes of the windows, from a state of the second description on.
func (c *course) strands(state int) *bundle[strand] {
	now := newBundle[strand]()
	if c.stop(place{0, state}).open {
		now.add(strand{state, noTerms}, c.guards)
	}
	for i := range c.terms {
		next := newBundle[strand]()
		for j, s := range now.keys {
			for _, x := range c.stop(place{i, s.state}).ways {
				to := strand{x.to, c.behind.store.put(s.out, x.out)}
				if !c.follow(next, to, x, now.boxes[j]) {
					return nil
				}
			}
		}
		now = next
	}
	return now
}

// follow puts to a strand what boxes have in common with a way's windows; false, if too much is done.
func (c *course) follow(next *bundle[strand], to strand, x way, boxes []window) bool {
	for _, w := range boxes {
		cost := perBox
		both, ok := w, true
		if !x.whole {
			cost = size(w, x.window)
			both, ok = box.Meet(w, x.window)
		}
		if ok {
			cost += perHeld * next.add(to, both)
		}
		if !c.behind.spend(cost) {
			return false
		}
	}
	return true
}
