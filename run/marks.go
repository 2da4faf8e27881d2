package run

import "slices"

// bitsOf is how many bits a number of marks has; no rule writes more symbols than that.
const bitsOf = 64

// marks are places of a word that are marked, as bits: those of the numbers that have some, the first of which is not 0 and stands for the places from first * bitsOf on.
type marks struct {
	first int
	bits  []uint64
}

// mark is a mark of one place.
func mark(i int) marks {
	return marks{i / bitsOf, []uint64{1 << (i % bitsOf)}}
}

// has tells whether a place is marked.
func (m marks) has(i int) bool {
	k := i/bitsOf - m.first
	return 0 <= k && k < len(m.bits) && m.bits[k]>>(i%bitsOf)&1 == 1
}

// union is the places that are marked in one of two.
func union(a, b marks) marks {
	if len(a.bits) == 0 {
		return b
	}
	if len(b.bits) == 0 {
		return a
	}
	first := min(a.first, b.first)
	bits := make([]uint64, max(a.first+len(a.bits), b.first+len(b.bits))-first)
	for _, m := range [...]marks{a, b} {
		for i, x := range m.bits {
			bits[m.first-first+i] |= x
		}
	}
	return marks{first, bits}
}

// trim is the marks of numbers of which the first and last ones may be 0.
func trim(first int, bits []uint64) marks {
	for len(bits) > 0 && bits[len(bits)-1] == 0 {
		bits = bits[:len(bits)-1]
	}
	for len(bits) > 0 && bits[0] == 0 {
		first, bits = first+1, bits[1:]
	}
	return marks{first, bits}
}

// goal is a word that is to be written.
type goal struct {
	y     []rune
	found map[rune][]uint64 // where in it a symbol stands, of those that were looked for
}

// newGoal is a goal of which nothing was looked for.
func newGoal(y []rune) *goal {
	return &goal{y, map[rune][]uint64{}}
}

// where is the places at which a symbol stands, as bits from the first place on; nil, if there is none.
func (g *goal) where(s rune) []uint64 {
	out, ok := g.found[s]
	if ok {
		return out
	}
	for i, x := range g.y {
		if x != s {
			continue
		}
		if out == nil {
			out = make([]uint64, len(g.y)/bitsOf+1)
		}
		out[i/bitsOf] |= 1 << (i % bitsOf)
	}
	g.found[s] = out
	return out
}

// ahead is the places at which a word of a rule or a final stands such that what lies behind it is marked.
func (g *goal) ahead(m marks, w []rune) marks {
	// It has no more symbols than a number has bits: so it begins at the number ahead of the first one at most.
	first := max(m.first-1, 0)
	bits := slices.Concat(make([]uint64, m.first-first), m.bits)
	for _, s := range slices.Backward(w) {
		here := g.where(s)
		if here == nil || !step(bits, here[first:]) {
			return marks{}
		}
	}
	return trim(first, bits)
}

// step moves marks to the places ahead of theirs, of which only those that stand here stay: do some?
func step(bits, here []uint64) bool {
	var all uint64
	for i := range bits {
		b := bits[i] >> 1
		if i+1 < len(bits) {
			b |= bits[i+1] << (bitsOf - 1)
		}
		bits[i] = b & here[i]
		all |= bits[i]
	}
	return all != 0
}
