package single

import (
	"slices"

	"umlaut/api"
	"umlaut/roll"
	"umlaut/shape"
	"umlaut/span"
	"umlaut/term"
)

// none is the number of nothing.
const none = -1

// letter is what a term writes: one symbol, whatever is read, or else what the term of a number makes of that.
type letter struct {
	symbol rune
	term   int // none, if the letter is fixed
}

// fixed is the letter that is one symbol.
func fixed(x rune) letter {
	return letter{symbol: x, term: none}
}

// letters keeps the terms of letters that aren't fixed, and lists of letters, each once, by numbers.
type letters struct {
	*shape.Book
	lists *roll.Roll[list]
}

// list is a list's last letter, and the number of what stands ahead of it.
type list struct {
	ahead int
	last  letter
}

// newLetters keeps nothing yet.
func newLetters() letters {
	return letters{shape.NewBook(), roll.Of[list]()}
}

// of is the letters of terms.
func (l letters) of(terms []api.Term) []letter {
	out := make([]letter, len(terms))
	for i, t := range terms {
		if len(t.Parts) > 0 {
			out[i] = letter{term: l.Put(t)}
			continue
		}
		x, _ := term.Value(t, nil)
		out[i] = fixed(rune(x))
	}
	return out
}

// list is the number of a list.
func (l letters) list(letters []letter) int {
	out := none
	for _, x := range letters {
		out = l.lists.Put(list{out, x})
	}
	return out
}

// termOf is a term that writes a letter.
func (l letters) termOf(x letter) api.Term {
	if x.term == none {
		return term.Const(x.symbol)
	}
	return l.Terms[x.term]
}

// value is what is written of a symbol that is read.
func (l letters) value(x letter, read rune) rune {
	if x.term == none {
		return x.symbol
	}
	v, _ := term.Value(l.Terms[x.term], []rune{read})
	return rune(v)
}

// unlike is a symbol that both rules of a meeting read, and true, if of that two letters aren't the same.
func (l letters) unlike(a, b letter, m *meeting) (rune, bool) {
	if a == b {
		return 0, false
	}
	x, ok := span.First(span.Minus(m.set(), term.Equal(l.termOf(a), l.termOf(b), m.set())))
	return rune(x), ok
}

// known is letters of which the last n are to be fixed, as they are of all symbols that both rules of a meeting read; or, if one isn't, two of these of which it is unlike.
func (l letters) known(letters []letter, n int, m *meeting) ([]letter, []rune) {
	out := slices.Clone(letters)
	for i := len(out) - n; i < len(out); i++ {
		first := rune(m.set()[0].Lo)
		y := fixed(l.value(out[i], first))
		if x, ok := l.unlike(out[i], y, m); ok {
			return nil, []rune{first, x}
		}
		out[i] = y
	}
	return out, nil
}

// tail is the symbols of the fixed letters behind the last one that isn't.
func tail(letters []letter) []rune {
	from := len(letters)
	for from > 0 && letters[from-1].term == none {
		from--
	}
	var out []rune
	for _, x := range letters[from:] {
		out = append(out, x.symbol)
	}
	return out
}
