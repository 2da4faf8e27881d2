package single

import (
	"slices"

	"umlaut/roll"
)

// The numbers of the text without symbols, and of the word of no texts.
const (
	noText = 0
	noWord = 0
)

// store keeps words by numbers, each as the texts that it is made of: so what is written on many ways that begin alike is kept once.
type store struct {
	numbers *roll.Roll[string]
	texts   [][]rune // by these numbers
	links   *roll.Roll[link]
	marks   []mark // of each link
}

// link is a word: its last text, which has symbols, and the word ahead of that.
type link struct{ ahead, text int }

// mark is how many symbols and texts a word has, and to which word ahead of it a jump leads. From each word few jumps and steps lead to any one ahead.
type mark struct{ size, texts, jump int }

// newStore is a store that has the word of no texts alone.
func newStore() *store {
	return &store{
		numbers: roll.Of(""),
		texts:   [][]rune{nil},
		links:   roll.Of(link{none, none}),
		marks:   []mark{{}},
	}
}

// text is the number of a text of scalars.
func (s *store) text(l []rune) int {
	n := s.numbers.Put(string(l))
	if n == len(s.texts) {
		s.texts = append(s.texts, l)
	}
	return n
}

// put is the number of a word with a text behind it.
func (s *store) put(word, text int) int {
	if text == noText {
		return word
	}
	n := s.links.Put(link{word, text})
	if n == len(s.marks) {
		s.marks = append(s.marks, s.mark(word, text))
	}
	return n
}

// mark is the mark of a word with a text behind it.
func (s *store) mark(word, text int) mark {
	ahead := s.marks[word]
	out := mark{size: ahead.size + len(s.texts[text]), texts: ahead.texts + 1, jump: word}
	// Two jumps over as many texts, one behind the other, make one, with the text behind them.
	first := s.marks[ahead.jump]
	if second := s.marks[first.jump]; ahead.texts-first.texts == first.texts-second.texts {
		out.jump = first.jump
	}
	return out
}

// cut is the symbols of a word from one place to ahead of another one.
func (s *store) cut(word, from, to int) []rune {
	out := make([]rune, to-from)
	for w := s.within(word, to); w != noWord && s.marks[w].size > from; w = s.links.Items[w].ahead {
		begin := s.marks[s.links.Items[w].ahead].size
		text := s.texts[s.links.Items[w].text]
		copy(out[max(begin-from, 0):], text[max(from-begin, 0):])
	}
	return out
}

// within is the shortest word, of one and those ahead of it, that has so many symbols.
func (s *store) within(word, size int) int {
	for word != noWord {
		ahead, jump := s.links.Items[word].ahead, s.marks[word].jump
		switch {
		case s.marks[jump].size >= size:
			word = jump
		case s.marks[ahead].size >= size:
			word = ahead
		default:
			return word
		}
	}
	return word
}

// spot is a place in a word: in its last text, behind so many of the text's symbols.
type spot struct{ word, left int }

// end is the place behind a word.
func (s *store) end(word int) spot {
	if word == noWord {
		return spot{}
	}
	return spot{word, len(s.texts[s.links.Items[word].text])}
}

// ahead is the n symbols ahead of a place, which all are of its text.
func (s *store) ahead(x spot, n int) []rune {
	return s.texts[s.links.Items[x.word].text][x.left-n : x.left]
}

// back is the place ahead of these.
func (s *store) back(x spot, n int) spot {
	if x.left == n {
		return s.end(s.links.Items[x.word].ahead)
	}
	return spot{x.word, x.left - n}
}

// same tells whether the last n symbols of two words are the same; both have as many.
func (s *store) same(a, b, n int) bool {
	x, y := s.end(a), s.end(b)
	for n > 0 && x != y {
		k := min(n, x.left, y.left)
		if !slices.Equal(s.ahead(x, k), s.ahead(y, k)) {
			return false
		}
		x, y, n = s.back(x, k), s.back(y, k), n-k
	}
	return true
}
