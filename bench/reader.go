package bench

import (
	"slices"
	"strings"

	"umlaut/api"
	"umlaut/hex"
	"umlaut/word"
)

// blank stands between each two words, and nothing for no symbols, or no bytes.
const (
	blank   = " "
	nothing = "-"
)

// What words are made of, and how much of it they have at most.
const (
	letters     = "abcdefghijklmnopqrstuvwxyz"
	mostLetters = 16
	kinds       = "1234"
	mostDigits  = 6
	byteDigits  = 2
	digitBits   = 4
)

// reader is what is left of a line, and whether a word in it is missing, or not of its kind.
type reader struct {
	left  string
	more  bool // a word is left, perhaps one that has nothing
	wrong bool
}

// newReader is all of a line.
func newReader(line string) *reader {
	return &reader{left: line, more: true}
}

// must is for what has to hold of a line.
func (r *reader) must(holds bool) {
	r.wrong = r.wrong || !holds
}

// done tells whether a line was all that it has to be, and nothing is left.
func (r *reader) done() bool {
	return !r.wrong && !r.more
}

// next is the next word; nothing, where none is left, as of no kind a word has nothing.
func (r *reader) next() string {
	var s string
	s, r.left, r.more = strings.Cut(r.left, blank)
	return s
}

// rest is all that stands behind the blank behind the last word, which has to be there.
func (r *reader) rest() string {
	r.must(r.more)
	s := r.left
	r.left, r.more = "", false
	return s
}

// name reads a name.
func (r *reader) name() string {
	s := r.next()
	r.must(0 < len(s) && len(s) <= mostLetters && strings.Trim(s, letters) == "")
	return s
}

// kind reads the number of a kind of machine.
func (r *reader) kind() int {
	s := r.next()
	r.must(len(s) == 1 && strings.Contains(kinds, s))
	return strings.Index(kinds, s) + 1
}

// symbols reads all symbols that are left.
func (r *reader) symbols() []rune {
	var out []rune
	for r.more {
		s := r.next()
		x := r.number(s)
		r.must(0 < len(s) && len(s) <= mostDigits && word.In(api.Scalars, x))
		out = append(out, x)
	}
	return out
}

// bytes reads bytes.
func (r *reader) bytes() []byte {
	s := r.next()
	if s == nothing {
		return nil
	}
	r.must(0 < len(s) && len(s)%byteDigits == 0)
	var out []byte
	for digits := range slices.Chunk([]byte(s), byteDigits) {
		out = append(out, byte(r.number(string(digits))))
	}
	return out
}

// number is the number of hex digits; of very many of them only that they are some counts.
func (r *reader) number(s string) rune {
	var n rune
	for _, x := range s {
		v, ok := hex.Value(x)
		r.must(ok)
		n = n<<digitBits | v
	}
	return n
}
