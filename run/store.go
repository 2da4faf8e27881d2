package run

import "cmp"

// The numbers of the empty word, and of none.
const (
	empty int32 = 0
	none  int32 = -1
)

// store keeps words by numbers, each word once: so words are the same just if their numbers are.
type store struct {
	links  []link
	number map[link]int32
}

// link is a word: its first symbol, the number of the rest, and how many symbols it has.
type link struct {
	symbol     rune
	rest, size int32
}

// newStore is a store that has the empty word alone.
func newStore() *store {
	// Where a word ends it comes ahead of one that goes on, as if there stood a symbol less than any.
	return &store{links: []link{{symbol: -1}}, number: map[link]int32{}}
}

// put is the number of the word that begins with some symbols, and goes on with a word that is kept; none, if it goes on with none.
func (s *store) put(front []rune, rest int32) int32 {
	if rest == none {
		return none
	}
	for i := len(front) - 1; i >= 0; i-- {
		l := link{front[i], rest, s.links[rest].size + 1}
		n, ok := s.number[l]
		if !ok {
			n = int32(len(s.links))
			s.links = append(s.links, l)
			s.number[l] = n
		}
		rest = n
	}
	return rest
}

// pile is words that are kept, each once.
type pile struct {
	words   []int32
	have    map[int32]struct{}
	symbols int // of all of them
}

// lay puts the words on a pile that begin with what a move writes, and go on with one of those that are handed in.
func (s *store) lay(p *pile, m move, rests []int32) {
	if len(rests) == 0 {
		return
	}
	if p.have == nil {
		p.have = map[int32]struct{}{}
	}
	front := m.written()
	for _, rest := range rests {
		w := s.put(front, rest)
		if _, ok := p.have[w]; ok {
			continue
		}
		p.have[w] = struct{}{}
		p.words = append(p.words, w)
		p.symbols += int(s.links[w].size)
	}
}

// text is a word that is kept; none has no symbols.
func (s *store) text(w int32) []rune {
	if w == none {
		return nil
	}
	out := make([]rune, 0, s.links[w].size)
	for ; w != empty; w = s.links[w].rest {
		out = append(out, s.links[w].symbol)
	}
	return out
}

// compare tells which of two words comes first, each of them some symbols and behind them a word that is kept.
func (s *store) compare(v []rune, a int32, w []rune, b int32) int {
	if len(v) > len(w) {
		return -s.compare(w, b, v, a)
	}
	for i, x := range v {
		if x != w[i] {
			return cmp.Compare(x, w[i])
		}
	}
	for _, y := range w[len(v):] {
		if x := s.links[a].symbol; x != y {
			return cmp.Compare(x, y)
		}
		a = s.links[a].rest
	}
	for a != b {
		x, y := s.links[a], s.links[b]
		if x.symbol != y.symbol {
			return cmp.Compare(x.symbol, y.symbol)
		}
		a, b = x.rest, y.rest
	}
	return 0
}
