package single

import (
	"slices"

	"umlaut/api"
	"umlaut/span"
)

// step is a rule of each of the two, and a symbol that both read.
type step struct {
	rules [2]*rule
	x     rune
}

// stepOf is a step with the least symbol that two rules both read.
func stepOf(rules [2]*rule) step {
	x, _ := span.First(span.Meet(rules[0].guard, rules[1].guard))
	return step{rules, rune(x)}
}

// wayTo is the steps from the start on which the two came to a place first.
func (c *course) wayTo(i int) []step {
	var out []step
	for ; c.places[i].from != none; i = c.places[i].from {
		out = append(out, stepOf(c.places[i].rules))
	}
	slices.Reverse(out)
	return out
}

// wayOn is the steps from a pair to the nearest one at which both may end, and what they write there.
func (c *course) wayOn(pair int) ([]step, [2][]rune) {
	var out []step
	for c.left[pair] > 0 {
		for m := range c.meetings(pair) {
			if c.left[m.to] < c.left[pair] {
				out = append(out, stepOf(m.rules))
				pair = m.to
				break
			}
		}
	}
	q := c.states(pair)
	return out, [2][]rune{c.sides[0].ends[q[0]][0], c.sides[1].ends[q[1]][0]}
}

// apart is the verdict of that of some ways to a pair, on which, gone on with from there, the two write unlike things; one of them is such.
func (c *course) apart(pair int, ways ...[]step) api.Verdict {
	rest, ends := c.wayOn(pair)
	var out api.Verdict
	for _, w := range ways {
		out = c.tell(slices.Concat(w, rest), ends)
		if !slices.Equal(out.Y, out.Z) {
			break
		}
	}
	return out
}

// tell is the verdict of a way on which the two write unlike things, and of what they write at its end.
func (c *course) tell(way []step, ends [2][]rune) api.Verdict {
	out := api.Verdict{Kind: api.VNo}
	var written [2][]rune
	for _, s := range way {
		out.X = append(out.X, s.x)
		for side, r := range s.rules {
			for _, l := range r.out {
				written[side] = append(written[side], c.value(l, s.x))
			}
		}
	}
	out.Y = append(written[0], ends[0]...)
	out.Z = append(written[1], ends[1]...)
	return out
}
