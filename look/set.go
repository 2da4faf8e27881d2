package look

import (
	"iter"
	"math/bits"
)

// wordBits is how many blocks a number tells of.
const wordBits = 64

// set is some of the blocks, a bit for each; nil is none of them.
type set []uint64

// newSet is an empty set of n blocks.
func newSet(n int) set {
	return make(set, (n+wordBits-1)/wordBits)
}

// put puts a block into a set.
func (s set) put(b int) {
	s[b/wordBits] |= 1 << (b % wordBits)
}

// has tells whether a block is in a set.
func (s set) has(b int) bool {
	return b/wordBits < len(s) && s[b/wordBits]>>(b%wordBits)&1 == 1
}

// lay puts the blocks into a set that two others have in common.
func (s set) lay(a, b set) {
	for i := range min(len(a), len(b)) {
		s[i] |= a[i] & b[i]
	}
}

// each goes through a set's blocks, as they rise.
func (s set) each() iter.Seq[int] {
	return func(yield func(int) bool) {
		for i, left := range s {
			for ; left != 0; left &= left - 1 {
				if !yield(i*wordBits + bits.TrailingZeros64(left)) {
					return
				}
			}
		}
	}
}
