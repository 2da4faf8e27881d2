package subset

import (
	"umlaut/api"
	"umlaut/bitset"
	"umlaut/place"
	"umlaut/roll"
)

// wordBits is how many states a word of bits tells of.
const wordBits = 64

// mostKept is how many numbers of sets behind blocks are kept at most. Beyond them what was found once is found again.
const mostKept = 1 << 22

// set is states, a bit for each.
type set [api.MaxStates / wordBits]uint64

// put puts a state into a set.
func (s *set) put(q int) {
	s[q/wordBits] |= 1 << (q % wordBits)
}

// meets tells whether two sets have a state in common.
func (s *set) meets(t *set) bool {
	for i := range s {
		if s[i]&t[i] != 0 {
			return true
		}
	}
	return false
}

// side is one of the two descriptions, by sets of its states.
type side struct {
	moves [][]move // of each state
	ends  set      // the states that finals are from
	sets  *roll.Roll[set]
	rows  [][]int // of each of the first sets, the number of the set behind each block
	next  []set   // room for the sets behind each block
}

// move is what a rule does: it leads to a state, with some blocks.
type move struct {
	with bitset.Set
	to   int
}

// newSide is a description that reads one symbol at a time, with its start, alone, as the first set.
func newSide(d api.Desc, blocks [][]api.Span) *side {
	s := &side{moves: make([][]move, d.States), next: make([]set, len(blocks))}
	for q, rules := range place.NewMachine(d, blocks).Rules {
		for _, r := range rules {
			s.moves[q] = append(s.moves[q], move{r.Have[0], r.To})
		}
	}
	for _, f := range d.Finals {
		s.ends.put(f.From)
	}
	var first set
	first.put(d.Start)
	s.sets = roll.Of(first)
	return s
}

// ended tells whether a set has a state that a final is from.
func (s *side) ended(number int) bool {
	return s.sets.Items[number].meets(&s.ends)
}

// row is the number of the set behind each block.
func (s *side) row(number int) []int {
	if number < len(s.rows) {
		return s.rows[number]
	}
	clear(s.next)
	from := s.sets.Items[number]
	for q := range bitset.Set(from[:]).Each() {
		for _, m := range s.moves[q] {
			for b := range m.with.Each() {
				s.next[b].put(m.to)
			}
		}
	}
	out := make([]int, len(s.next))
	for b, to := range s.next {
		out[b] = s.sets.Put(to)
	}
	// Sets come, and are asked for first, in the order of their numbers.
	if number == len(s.rows) && (number+1)*len(out) <= mostKept {
		s.rows = append(s.rows, out)
	}
	return out
}
