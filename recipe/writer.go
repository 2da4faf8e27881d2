package recipe

import (
	"slices"
	"strconv"

	"umlaut/api"
	"umlaut/word"
)

// Where a node stands, by what is asked for there: the farther down, the more has to stand in ( ).
const (
	asAlternative = iota
	asRow
	asItem
	asAtom
)

// writer is a text that is written.
type writer struct {
	out []rune
}

// full tells whether there are more symbols than a text may have.
func (w *writer) full() bool {
	return len(w.out) > api.MaxText
}

// put writes symbols, but no more of them than that it is full.
func (w *writer) put(l ...rune) {
	room := api.MaxText + 1 - len(w.out)
	w.out = append(w.out, l[:min(len(l), room)]...)
}

// node writes a node.
func (w *writer) node(n api.Recipe, where int) {
	switch {
	case bracketed(n, where):
		w.group(n)
	case n.Kind == api.KCopy:
		w.set(n.Set)
		w.by(n.By)
	case n.Kind == api.KDrop:
		w.set(n.Set)
		w.put('!')
	case n.Kind == api.KPair:
		w.pair(n.Read, n.Write)
	case n.Kind == api.KMany:
		w.many(n.L)
	case len(n.L) == 1:
		w.group(n.L[0])
	case n.Kind == api.KCat:
		w.items(n.L)
	default:
		w.rows(n.L)
	}
}

// bracketed tells whether a node is one that stands in ( ) there.
func bracketed(n api.Recipe, where int) bool {
	switch n.Kind {
	case api.KAlt:
		return where >= asRow && len(n.L) > 1
	case api.KCat:
		return where >= asItem && len(n.L) != 1
	case api.KMany:
		return where >= asAtom
	}
	return false
}

// group writes a node in ( ).
func (w *writer) group(n api.Recipe) {
	w.put('(')
	w.node(n, asAlternative)
	w.put(')')
}

// rows writes what one is taken of.
func (w *writer) rows(l []api.Recipe) {
	if len(l) == 0 {
		w.put('[', ']')
	}
	for i, n := range l {
		if w.full() {
			return
		}
		if i > 0 {
			w.put('|')
		}
		w.node(n, asRow)
	}
}

// items writes nodes, one behind the other.
func (w *writer) items(l []api.Recipe) {
	for i, n := range l {
		if w.full() {
			return
		}
		// The digits of what is behind it would be read as By's.
		if n.Kind == api.KCopy && n.By != 0 && i+1 < len(l) && digitAhead(l[i+1]) {
			w.group(n)
			continue
		}
		w.node(n, asItem)
	}
}

// digitAhead tells whether an item begins with a decimal digit: a letter does, once or again and again.
func digitAhead(n api.Recipe) bool {
	if n.Kind == api.KMany && len(n.L) == 1 {
		n = n.L[0]
	}
	return n.Kind == api.KPair && letter(n.Read, n.Write) && digit(n.Read[0])
}

// many writes what is read again and again.
func (w *writer) many(l []api.Recipe) {
	if len(l) == 1 {
		w.node(l[0], asAtom)
	} else {
		w.put('(')
		w.items(l)
		w.put(')')
	}
	w.put('*')
}

// set writes a class.
func (w *writer) set(s []api.Span) {
	if slices.Equal(s, word.Domain(api.Scalars)) {
		w.put('.')
		return
	}
	w.put('[')
	for _, x := range s {
		w.letters(rune(x.Lo))
		if x.Lo < x.Hi {
			w.put('-')
			w.letters(rune(x.Hi))
		}
	}
	w.put(']')
}

// by writes how far symbols are moved.
func (w *writer) by(by int) {
	if by != 0 {
		w.put('@')
		w.put(word.Of(strconv.Itoa(by))...)
	}
}

// letter tells whether a pair is written as one letter.
func letter(read, write []rune) bool {
	return len(read) == 1 && slices.Equal(read, write)
}

// pair writes what is read and what is written.
func (w *writer) pair(read, write []rune) {
	if letter(read, write) {
		w.letters(read...)
		return
	}
	w.put('{')
	w.letters(read...)
	w.put('>')
	w.letters(write...)
	w.put('}')
}

// letters writes symbols as letters.
func (w *writer) letters(l ...rune) {
	for _, x := range l {
		switch {
		case w.full():
			return
		case sign(x):
			w.put('\\', x)
		case x == '\n':
			w.put('\\', 'n')
		case control(x):
			w.put(word.Of("\\u{" + strconv.FormatInt(int64(x), 16) + "}")...)
		default:
			w.put(x)
		}
	}
}
