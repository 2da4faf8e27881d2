package chain

import (
	"slices"

	"umlaut/api"
	"umlaut/span"
)

// perBox is how many spans a box counts for, however few it has.
const perBox = 32

// perHeld is how many spans a box counts for that another one is held against.
const perHeld = 4

// window is the guards of windows: a box.
type window = [][]api.Span

// size is how much is to be gone through, of some boxes.
func size(l ...window) int {
	n := 0
	for _, w := range l {
		for _, g := range w {
			n += len(g)
		}
		n += perBox
	}
	return n
}

// bundle is boxes, put to keys, in the order in which these come.
type bundle[K comparable] struct {
	keys  []K
	boxes [][]window // of each key
	at    map[K]int
}

// newBundle is a bundle of nothing.
func newBundle[K comparable]() *bundle[K] {
	return &bundle[K]{at: map[K]int{}}
}

// add puts boxes to a key, and answers how many there have been.
func (b *bundle[K]) add(key K, boxes ...window) int {
	i, ok := b.at[key]
	if !ok {
		i = len(b.keys)
		b.at[key] = i
		b.keys = append(b.keys, key)
		b.boxes = append(b.boxes, nil)
	}
	n := len(b.boxes[i])
	for _, w := range boxes {
		b.boxes[i] = lay(b.boxes[i], w)
	}
	return n
}

// lay puts a box to others: where it makes one box with one of them, that stands for both.
func lay(l []window, w window) []window {
	for i := 0; i < len(l); i++ {
		both, ok := joined(l[i], w)
		if !ok {
			continue
		}
		// What is greater now may make one box with one that w alone didn't fit.
		l, w, i = slices.Delete(l, i, i+1), both, -1
	}
	return append(l, w)
}

// joined is the box of the windows of two, if they are unlike at one place at most.
func joined(a, b window) (window, bool) {
	if len(a) != len(b) {
		return nil, false
	}
	unlike := -1
	for i := range a {
		if slices.Equal(a[i], b[i]) {
			continue
		}
		if unlike >= 0 {
			return nil, false
		}
		unlike = i
	}
	if unlike < 0 {
		return a, true
	}
	out := slices.Clone(a)
	out[unlike] = span.Union(a[unlike], b[unlike])
	return out, true
}

// cut is a box as boxes whose guards have no more spans than guards may have.
func cut(w window) []window {
	out := []window{nil}
	for _, g := range w {
		var longer []window
		for _, ahead := range out {
			for piece := range slices.Chunk(g, api.MaxSpans) {
				longer = append(longer, append(slices.Clone(ahead), slices.Clone(piece)))
			}
		}
		out = longer
	}
	return out
}
