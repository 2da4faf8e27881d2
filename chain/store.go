package chain

import (
	"umlaut/api"
	"umlaut/fresh"
)

const (
	noTerms  = 0  // the list without terms
	tooLong  = -1 // every list of more terms than a rule may write
	noNumber = -1
)

// store keeps terms, and lists of them, each once, by numbers.
type store struct {
	terms  []api.Term
	lists  []list
	termOf map[form]int
	listOf map[list]int
}

// form is what a term is made of.
type form struct {
	base, drop, take, up, sum, n int
	parts                        [api.MaxParts]api.Part
}

// list is a list's last term, and what stands ahead of it.
type list struct{ ahead, last, size int }

// newStore is a store that has the list without terms.
func newStore() *store {
	return &store{lists: []list{{ahead: noNumber, last: noNumber}}, termOf: map[form]int{}, listOf: map[list]int{}}
}

// numbers is the numbers of terms.
func (s *store) numbers(l []api.Term) []int {
	var out []int
	for _, t := range l {
		f := form{base: t.Base, drop: t.Drop, take: t.Take, up: t.Up, sum: t.Sum, n: len(t.Parts)}
		copy(f.parts[:], t.Parts)
		i, ok := s.termOf[f]
		if !ok {
			i = len(s.terms)
			s.terms = append(s.terms, t)
			s.termOf[f] = i
		}
		out = append(out, i)
	}
	return out
}

// put is the number of a list with terms behind it.
func (s *store) put(l int, terms []int) int {
	for _, t := range terms {
		if l == tooLong || s.lists[l].size == api.MaxOut {
			return tooLong
		}
		more := list{ahead: l, last: t, size: s.lists[l].size + 1}
		i, ok := s.listOf[more]
		if !ok {
			i = len(s.lists)
			s.lists = append(s.lists, more)
			s.listOf[more] = i
		}
		l = i
	}
	return l
}

// tell is a list's terms, in new memory.
func (s *store) tell(l int) []api.Term {
	out := make([]api.Term, s.lists[l].size)
	for i := len(out) - 1; i >= 0; i-- {
		out[i] = s.terms[s.lists[l].last]
		l = s.lists[l].ahead
	}
	return fresh.Terms(out)
}
