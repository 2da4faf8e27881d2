package look

import (
	"math/bits"

	"umlaut/api"
	"umlaut/desc"
	"umlaut/minterm"
	"umlaut/part"
	"umlaut/place"
	"umlaut/span"
	"umlaut/word"
)

// blocksOf is the blocks of a well-formed description without epsilon rules.
func blocksOf(d api.Desc) ([][]api.Span, api.Errno) {
	blocks, e := minterm.Split(word.Domain(d.In), place.Guards(d))
	if e != api.OK {
		return nil, e
	}
	kept := keptOf(d)
	// A part has one value just where all bits that it takes are the same. The high ones first: so blocks that become too many do so while they have few spans.
	for bit := width(d.In) - 1; bit >= 0; bit-- {
		blocks, e = minterm.Refine(blocks, ones(kept, bit))
		if e != api.OK {
			return nil, e
		}
	}
	for _, b := range blocks {
		if len(b) > api.MaxSpans {
			return nil, api.ErrLong
		}
	}
	return blocks, api.OK
}

// width is how many bits a sort's symbols have.
func width(s api.Sort) int {
	last, _ := span.Last(word.Domain(s))
	return bits.Len(uint(last))
}

// keptOf is the symbols of guards at whose places kept parts take bits, by the number of just these bits. (Two symbols that a guard tells apart are in two blocks already: so guards of which the same is kept may be one set.)
func keptOf(d api.Desc) map[int][]api.Span {
	out := map[int][]api.Span{}
	all := 1<<width(d.In) - 1
	lay := func(guards [][]api.Span, terms []api.Term) {
		for at, g := range guards {
			if taken := takenAt(terms, at) & all; taken != 0 {
				out[taken] = append(out[taken], g...)
			}
		}
	}
	far := desc.Ahead(d) > 1
	for _, r := range d.Rules {
		kept := r.Guards
		if !far && len(kept) > 0 {
			kept = kept[:len(kept)-1]
		}
		lay(kept, r.Out)
	}
	for _, f := range d.Finals {
		lay(f.Guards, f.Out)
	}
	for taken, s := range out {
		out[taken] = span.Norm(s)
	}
	return out
}

// takenAt is the bits that parts of terms take of the symbol at a place, as a number.
func takenAt(terms []api.Term, at int) int {
	n := 0
	for _, t := range terms {
		for _, p := range t.Parts {
			if p.At == at {
				n |= (1<<p.Take - 1) << p.Drop
			}
		}
	}
	return n
}

// ones is the symbols of which a bit is kept, and that have it.
func ones(kept map[int][]api.Span, bit int) []api.Span {
	var all []api.Span
	for taken, s := range kept {
		if taken>>bit&1 == 1 {
			all = append(all, s...)
		}
	}
	return part.Pre(api.Part{Drop: bit, Take: 1}, all, []api.Span{{Lo: 1, Hi: 1}})
}
