package subset

import (
	"slices"

	"umlaut/api"
	"umlaut/minterm"
	"umlaut/roll"
)

// none is the number of no pair, and of no set.
const none = -1

// pair is a set of states of each of the two, by their numbers.
type pair [2]int

// coming is how a pair came first: from another one, with a block.
type coming struct{ from, block int }

// walk is the pairs of sets of two descriptions, as they come.
type walk struct {
	sides [2]*side
	least []int // the least symbol of each block
	pairs *roll.Roll[pair]
	came  []coming // of each pair
}

// newWalk is two descriptions, their blocks, and the first pair.
func newWalk(a, b api.Desc, blocks [][]api.Span) *walk {
	return &walk{
		sides: [2]*side{newSide(a, blocks), newSide(b, blocks)},
		least: minterm.Least(blocks),
		pairs: roll.Of(pair{}),
		came:  []coming{{from: none}},
	}
}

// apart is the first of n pairs that tells apart, or none, if no pair does; ErrBudget, if there are more than n, and none of these does.
func (w *walk) apart(n int) (int, api.Errno) {
	if n < 1 {
		return none, api.ErrBudget
	}
	if w.tells(w.pairs.Items[0]) {
		return 0, api.OK
	}
	for i := 0; i < len(w.pairs.Items); i++ {
		now, last := w.pairs.Items[i], pair{none, none}
		left, right := w.sides[0].row(now[0]), w.sides[1].row(now[1])
		for b := range left {
			next := pair{left[b], right[b]}
			// Blocks that lie side by side often lead to one pair.
			if next == last {
				continue
			}
			last = next
			at := w.pairs.Put(next)
			if at < len(w.came) {
				continue
			}
			if at == n {
				return none, api.ErrBudget
			}
			w.came = append(w.came, coming{i, b})
			if w.tells(next) {
				return at, api.OK
			}
		}
	}
	return none, api.OK
}

// tells tells whether a pair tells apart.
func (w *walk) tells(p pair) bool {
	return w.sides[0].ended(p[0]) != w.sides[1].ended(p[1])
}

// word is a pair's word.
func (w *walk) word(at int) []rune {
	var out []rune
	for ; w.came[at].from != none; at = w.came[at].from {
		out = append(out, rune(w.least[w.came[at].block]))
	}
	slices.Reverse(out)
	return out
}
