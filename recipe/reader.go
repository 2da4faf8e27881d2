package recipe

import (
	"strings"

	"umlaut/api"
	"umlaut/hex"
	"umlaut/span"
	"umlaut/word"
)

// end stands behind a text's last symbol.
const end = -1

// How many digits numbers have at most.
const (
	hexDigits     = 6
	decimalDigits = 7
)

// fault is the place at which a reader gives up.
type fault int

// reader is a text that is read, symbol by symbol.
type reader struct {
	text []rune
	at   int
	open int // how many ( are open
}

// read is the node of a text, or its fault.
func read(text []rune) (n api.Recipe, at int, e api.Errno) {
	defer func() {
		x := recover()
		if x == nil {
			return
		}
		f, own := x.(fault)
		if !own {
			panic(x)
		}
		n, at, e = api.Recipe{}, int(f), api.ErrText
	}()
	r := reader{text: text}
	n = r.alternative()
	r.must(end)
	return n, 0, api.OK
}

// fail gives up at a place.
func (r *reader) fail(at int) {
	panic(fault(at))
}

// next is the symbol that stands here.
func (r *reader) next() rune {
	if r.at == len(r.text) {
		return end
	}
	return r.text[r.at]
}

// take goes over a symbol, if it stands here.
func (r *reader) take(x rune) bool {
	if r.next() != x {
		return false
	}
	r.at++
	return true
}

// must goes over a symbol, which has to stand here.
func (r *reader) must(x rune) {
	if !r.take(x) {
		r.fail(r.at)
	}
}

// alternative reads rows.
func (r *reader) alternative() api.Recipe {
	rows := []api.Recipe{r.row()}
	for r.take('|') {
		rows = append(rows, r.row())
	}
	return whole(api.KAlt, rows)
}

// row reads items.
func (r *reader) row() api.Recipe {
	var items []api.Recipe
	for x := r.next(); x != end && x != '|' && x != ')'; x = r.next() {
		items = append(items, r.item())
	}
	return whole(api.KCat, items)
}

// whole is a node of a kind that has some parts, or the only one of them.
func whole(kind int, parts []api.Recipe) api.Recipe {
	if len(parts) == 1 {
		return parts[0]
	}
	return api.Recipe{Kind: kind, L: parts}
}

// item reads an atom, and how often it is read again and again.
func (r *reader) item() api.Recipe {
	n := r.atom()
	for r.take('*') {
		n = api.Recipe{Kind: api.KMany, L: []api.Recipe{n}}
	}
	return n
}

// atom reads an atom: a letter stands for a node that writes what it reads.
func (r *reader) atom() api.Recipe {
	what := r.letterOrNode()
	if x, ok := what.(rune); ok {
		return api.Recipe{Kind: api.KPair, Read: []rune{x}, Write: []rune{x}}
	}
	return what.(api.Recipe)
}

// letterOrNode reads an atom, which is a rune, if it is a letter.
func (r *reader) letterOrNode() any {
	switch r.next() {
	case '(':
		return r.group()
	case '{':
		return r.pair()
	case '.', '[':
		return r.class()
	}
	return r.letter(loose)
}

// group reads an alternative in ( ).
func (r *reader) group() api.Recipe {
	if r.open == api.MaxDepth {
		r.fail(r.at)
	}
	r.must('(')
	r.open++
	n := r.alternative()
	r.must(')')
	r.open--
	return n
}

// pair reads what is read and what is written.
func (r *reader) pair() api.Recipe {
	n := api.Recipe{Kind: api.KPair}
	r.must('{')
	n.Read = r.letters('>')
	n.Write = r.letters('}')
	return n
}

// letters reads letters up to a sign, and that.
func (r *reader) letters(last rune) []rune {
	var out []rune
	for !r.take(last) {
		out = append(out, r.letter(""))
	}
	return out
}

// class reads a class and what stands behind it.
func (r *reader) class() api.Recipe {
	all := word.Domain(api.Scalars)
	if r.take('.') {
		return r.changed(all)
	}
	r.must('[')
	others := r.take('^')
	var ranges []api.Span
	for r.next() != ']' {
		ranges = append(ranges, r.span())
	}
	set := span.Meet(all, ranges)
	if others {
		set = span.Minus(all, ranges)
	}
	if others && len(set) == 0 {
		r.fail(r.at)
	}
	r.must(']')
	if len(set) == 0 {
		return api.Recipe{Kind: api.KAlt}
	}
	return r.changed(set)
}

// span reads a range.
func (r *reader) span() api.Span {
	lo := r.letter("")
	hi := lo
	if r.take('-') {
		hi = r.letter("")
	}
	if hi < lo {
		r.fail(r.at - 1)
	}
	return api.Span{Lo: int(lo), Hi: int(hi)}
}

// changed reads what is to be done with the symbols of a set.
func (r *reader) changed(set []api.Span) api.Recipe {
	if r.take('!') {
		return api.Recipe{Kind: api.KDrop, Set: set}
	}
	n := api.Recipe{Kind: api.KCopy, Set: set}
	if r.take('@') {
		n.By = r.by()
	}
	return n
}

// by reads a number in decimal digits, as many as there may be.
func (r *reader) by() int {
	factor := 1
	if r.take('-') {
		factor = -1
	}
	first := r.at
	by := 0
	for r.at < first+decimalDigits && digit(r.next()) {
		by = by*10 + int(r.next()-'0')
		r.at++
	}
	if r.at == first {
		r.fail(r.at)
	}
	return factor * by
}

// letter reads a letter; so are some signs here.
func (r *reader) letter(more string) rune {
	if r.take('\\') {
		return r.behindSlash()
	}
	x := r.next()
	if control(x) || sign(x) && !strings.ContainsRune(more, x) {
		r.fail(r.at)
	}
	r.at++
	return x
}

// behindSlash reads the rest of a letter that begins with \ .
func (r *reader) behindSlash() rune {
	x := r.next()
	switch {
	case r.take('n'):
		return '\n'
	case r.take('u'):
		return r.numbered()
	case !sign(x):
		r.fail(r.at)
	}
	r.at++
	return x
}

// numbered reads the number of a letter, in { }.
func (r *reader) numbered() rune {
	r.must('{')
	first := r.at
	x := rune(0)
	for r.at < first+hexDigits {
		value, ok := hex.Value(r.next())
		if !ok {
			break
		}
		x = x<<4 | value
		r.at++
	}
	if r.at == first || !word.In(api.Scalars, x) {
		r.fail(r.at)
	}
	r.must('}')
	return x
}
