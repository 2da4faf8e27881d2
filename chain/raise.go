package chain

import (
	"math/bits"
	"slices"

	"umlaut/api"
	"umlaut/part"
	"umlaut/span"
	"umlaut/term"
)

// written is what is written of the windows of a box.
type written struct {
	window window
	out    []api.Term
}

// raise is what terms make of what a term makes of a box's windows. Where the two sums together are too low for a term, great bits of its parts are counted as sums: for that the windows are parted by these bits.
func raise(t api.Term, terms []api.Term, w window) []written {
	if out, ok := putAll(terms, t); ok {
		return []written{{w, out}}
	}
	t, top := counted(t, w)
	if out, ok := putAll(terms, t); ok {
		return []written{{w, out}}
	}
	// Without parts left, the value itself would be the sum, and that is never too low.
	p := t.Parts[top]
	bit := api.Part{Drop: p.Drop + p.Take - 1, Take: 1}
	var out []written
	for b := range 2 {
		half := slices.Clone(w)
		half[p.At] = part.Pre(bit, w[p.At], []api.Span{{Lo: b, Hi: b}})
		out = append(out, raise(t, terms, half)...)
	}
	return out
}

// putAll is what terms make of what a term makes; none, and false, if sums are out of bounds.
func putAll(terms []api.Term, t api.Term) ([]api.Term, bool) {
	var out []api.Term
	for _, u := range terms {
		both, ok := term.Put(u, t)
		if !ok {
			return nil, false
		}
		out = append(out, both)
	}
	return out, true
}

// counted is a term whose parts' upper bits, where they are those of all symbols of a box, are counted in its sum; and which of the parts left has the greatest bit.
func counted(t api.Term, w window) (api.Term, int) {
	var left []api.Part
	top := 0
	for _, p := range t.Parts {
		values := part.Image(p, w[p.At])
		lo, _ := span.First(values)
		hi, _ := span.Last(values)
		free := bits.Len(uint(lo ^ hi))
		t.Sum += lo >> free << free
		if free == 0 {
			continue
		}
		p.Take = free - p.Up
		left = append(left, p)
		if q := left[top]; p.Up+p.Take > q.Up+q.Take {
			top = len(left) - 1
		}
	}
	t.Parts = left
	return t, top
}
