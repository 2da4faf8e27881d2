package box

import (
	"umlaut/api"
	"umlaut/fresh"
	"umlaut/span"
)

// mostBoxes is how many boxes are told of: of more rules than that no description is made.
const mostBoxes = api.MaxRules

// layer lays boxes.
type layer struct {
	places []place
	box    [][]api.Span // the one that is being made
	out    [][][]api.Span
}

// lay is the boxes of the windows, out of all, whose places come to something that is wanted.
func lay(l []place, all [][]api.Span, wanted []api.Span) ([][][]api.Span, api.Errno) {
	b := layer{places: l, box: all}
	if !b.from(0, wanted) {
		return nil, api.ErrLong
	}
	return b.out, api.OK
}

// from lays the boxes that begin as the one that is being made does up to a place; false, if they are too many.
func (b *layer) from(i int, wanted []api.Span) bool {
	if i == len(b.places) {
		// No places come to 0.
		if span.Has(wanted, 0) {
			b.out = append(b.out, fresh.Guards(b.box))
		}
		return len(b.out) <= mostBoxes
	}
	p := b.places[i]
	for _, g := range p.groups(wanted) {
		b.box[p.at] = span.Norm(g.symbols)
		if !b.from(i+1, g.wanted) {
			return false
		}
	}
	return true
}
