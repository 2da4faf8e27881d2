// Package place is what the layers share that remember what was read and not eaten: places, and descriptions whose guards are told by blocks.
package place

import (
	"umlaut/api"
	"umlaut/bitset"
)

// Word is what was read and not eaten: the numbers of its blocks, N of them; those behind them are 0, so that what is the same is equal.
type Word struct {
	Blocks [api.MaxWindow]int
	N      int
}

// Place is a state, and what is held there.
type Place struct {
	State int
	Word
}

// Last is the last n blocks of a word.
func (w Word) Last(n int) Word {
	var out Word
	out.N = copy(out.Blocks[:], w.Blocks[w.N-n:w.N])
	return out
}

// With is a word with one more block behind it; there is room for it.
func (w Word) With(block int) Word {
	w.Blocks[w.N] = block
	w.N++
	return w
}

// In tells whether sets have the blocks of a word, one by one, as far as both go.
func (w Word) In(have []bitset.Set) bool {
	for i, b := range w.Blocks[:min(w.N, len(have))] {
		if !have[i].Has(b) {
			return false
		}
	}
	return true
}
