package chain

import (
	"umlaut/api"
	"umlaut/fresh"
	"umlaut/shape"
)

const (
	noTerms  = 0  // the list without terms
	tooLong  = -1 // every list of more terms than a rule may write
	noNumber = -1
)

// store keeps terms, and lists of them, each once, by numbers.
type store struct {
	terms  *shape.Book
	lists  []list
	listOf map[list]int
}

// list is a list's last term, and what stands ahead of it.
type list struct{ ahead, last, size int }

// newStore is a store that has the list without terms.
func newStore() *store {
	return &store{terms: shape.NewBook(), lists: []list{{ahead: noNumber, last: noNumber}}, listOf: map[list]int{}}
}

// numbers is the numbers of terms.
func (s *store) numbers(l []api.Term) []int {
	var out []int
	for _, t := range l {
		out = append(out, s.terms.Put(t))
	}
	return out
}

// put is the number of a list with terms behind it.
func (s *store) put(l int, terms []int) int {
	for _, t := range terms {
		if l == tooLong || s.lists[l].size == api.MaxOut {
			return tooLong
		}
		more := list{ahead: l, last: t, size: s.lists[l].size + 1}
		i, ok := s.listOf[more]
		if !ok {
			i = len(s.lists)
			s.lists = append(s.lists, more)
			s.listOf[more] = i
		}
		l = i
	}
	return l
}

// tell is a list's terms, in new memory.
func (s *store) tell(l int) []api.Term {
	out := make([]api.Term, s.lists[l].size)
	for i := len(out) - 1; i >= 0; i-- {
		out[i] = s.terms.Terms[s.lists[l].last]
		l = s.lists[l].ahead
	}
	return fresh.Terms(out)
}
