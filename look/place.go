package look

import "umlaut/api"

// held is what was read and not eaten: the numbers of its blocks, n of them; those behind them are 0, so that what is the same is equal.
type held struct {
	blocks [api.MaxWindow]int
	n      int
}

// place is a state, and what is held there.
type place struct {
	state int
	held
}

// last is the last n blocks that are held.
func (h held) last(n int) held {
	var out held
	out.n = copy(out.blocks[:], h.blocks[h.n-n:h.n])
	return out
}

// with is what is held when one more block was read; there is room for it.
func (h held) with(block int) held {
	h.blocks[h.n] = block
	h.n++
	return h
}

// list is places, each once, in the order in which they came.
type list struct {
	places []place
	number map[place]int
}

// newList is a list of one place.
func newList(first place) *list {
	l := &list{number: map[place]int{}}
	l.put(first)
	return l
}

// put is the number of a place, which is put behind the others, if it is new.
func (l *list) put(p place) int {
	n, ok := l.number[p]
	if !ok {
		n = len(l.places)
		l.number[p] = n
		l.places = append(l.places, p)
	}
	return n
}
