package shape

import (
	"umlaut/api"
	"umlaut/roll"
)

// Book is terms, each once, in the order in which they came.
type Book struct {
	Terms []api.Term
	forms *roll.Roll[form]
}

// form is what a term is made of, so that like ones are equal.
type form struct {
	base, drop, take, up, sum, n int
	parts                        [api.MaxParts]api.Part
}

// NewBook is a book of no terms.
func NewBook() *Book {
	return &Book{forms: roll.Of[form]()}
}

// Put is the number of a term, of no more parts than a right one has, which is put behind the others, if it is new.
func (b *Book) Put(t api.Term) int {
	f := form{base: t.Base, drop: t.Drop, take: t.Take, up: t.Up, sum: t.Sum, n: len(t.Parts)}
	copy(f.parts[:], t.Parts)
	n := b.forms.Put(f)
	if n == len(b.Terms) {
		b.Terms = append(b.Terms, t)
	}
	return n
}
