// Package bitset is sets of small numbers, a bit for each.
package bitset

import (
	"iter"
	"math/bits"
)

// wordBits is how many numbers a word of bits tells of.
const wordBits = 64

// Set is some of the numbers from 0 on; nil has none of them.
type Set []uint64

// New is an empty set, with room for the numbers below n.
func New(n int) Set {
	return make(Set, (n+wordBits-1)/wordBits)
}

// Put puts a number into a set.
func (s Set) Put(x int) {
	s[x/wordBits] |= 1 << (x % wordBits)
}

// Take takes a number out of a set.
func (s Set) Take(x int) {
	s[x/wordBits] &^= 1 << (x % wordBits)
}

// Has tells whether a number is in a set.
func (s Set) Has(x int) bool {
	return x/wordBits < len(s) && s[x/wordBits]>>(x%wordBits)&1 == 1
}

// Lay puts the numbers into a set that two others have in common.
func (s Set) Lay(a, b Set) {
	for i := range min(len(a), len(b)) {
		s[i] |= a[i] & b[i]
	}
}

// Keep takes the numbers out of a set that another one, of as much room, hasn't.
func (s Set) Keep(a Set) {
	for i := range s {
		s[i] &= a[i]
	}
}

// Each goes through a set's numbers, as they rise.
func (s Set) Each() iter.Seq[int] {
	return func(yield func(int) bool) {
		for i, left := range s {
			for ; left != 0; left &= left - 1 {
				if !yield(i*wordBits + bits.TrailingZeros64(left)) {
					return
				}
			}
		}
	}
}
