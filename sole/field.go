package sole

import (
	"cmp"
	"math"
	"slices"

	"umlaut/api"
	"umlaut/bitset"
	"umlaut/span"
)

// room is how many pairs of options are held against each other at once, at most: so their bits need not much memory, however many options there are.
const room = 1 << 26

// field is the options of one state, of which some, the rows, are held against all.
type field struct {
	options []option
	edges   [api.MaxWindow][]edge // of each place that a window can have
	rows    part
}

// part is the options from one to ahead of another one.
type part struct{ from, to int }

// size is how many options a part has.
func (p part) size() int { return p.to - p.from }

// has tells whether an option is in a part.
func (p part) has(option int) bool { return p.from <= option && option < p.to }

// edge is a symbol at which a span of an option's guard begins, or behind which it is over.
type edge struct {
	at     int
	over   bool
	option int
}

// least is the numbers of the first two options that clash; the options rise.
func least(l []option) ([2]int, bool) {
	f := field{options: l, edges: edgesOf(l)}
	for f.rows.to < len(l) {
		f.rows = part{f.rows.to, min(len(l), f.rows.to+max(1, room/len(l)))}
		if pair, ok := f.first(); ok {
			return pair, true
		}
	}
	return [2]int{}, false
}

// edgesOf is the edges of the options' guards, at each place, in the order of their symbols.
func edgesOf(l []option) [api.MaxWindow][]edge {
	var out [api.MaxWindow][]edge
	for i, x := range l {
		for at, g := range x.guards[:min(len(x.guards), len(out))] {
			for _, r := range span.Norm(g) {
				out[at] = append(out[at], edge{r.Lo, false, i}, edge{r.Hi, true, i})
			}
		}
	}
	for _, edges := range out {
		slices.SortFunc(edges, compare)
	}
	return out
}

// compare is the order of edges; what begins at a symbol comes ahead of what is over behind it, as the two meet.
func compare(a, b edge) int {
	switch {
	case a.at != b.at:
		return cmp.Compare(a.at, b.at)
	case a.over == b.over:
		return 0
	case a.over:
		return 1
	}
	return -1
}

// first is the numbers of the first two options that clash, the lesser one of which is a row.
func (f *field) first() ([2]int, bool) {
	for i, with := range f.meet() {
		a := f.options[f.rows.from+i]
		for k := range with.Each() {
			if b := f.options[k]; a.number < b.number && clash(a, b) {
				return [2]int{a.number, b.number}, true
			}
		}
	}
	return [2]int{}, false
}

// meet is, of each row, the options that it meets at each place that both have.
func (f *field) meet() []bitset.Set {
	all := f.fewer(math.MaxInt)
	out := make([]bitset.Set, f.rows.size())
	for i := range out {
		out[i] = slices.Clone(all)
	}
	for at := range f.edges {
		lack := f.fewer(at + 1)
		for i, here := range f.meetAt(at) {
			if !lack.Has(f.rows.from + i) {
				here.Lay(lack, all)
				out[i].Keep(here)
			}
		}
	}
	return out
}

// fewer is the options that have fewer than n guards.
func (f *field) fewer(n int) bitset.Set {
	out := bitset.New(len(f.options))
	for k, x := range f.options {
		if len(x.guards) < n {
			out.Put(k)
		}
	}
	return out
}

// meetAt is, of each row, the options that it meets at a place: of two spans that meet one begins where the other one is open.
func (f *field) meetAt(at int) []bitset.Set {
	all := part{0, len(f.options)}
	out := begin(f.edges[at], f.rows, all)
	for k, rows := range begin(f.edges[at], all, f.rows) {
		for i := range rows.Each() {
			out[i].Put(k)
		}
	}
	return out
}

// begin is, of each option of one part, those of another part that are open where it begins.
func begin(edges []edge, of, with part) []bitset.Set {
	out := make([]bitset.Set, of.size())
	for i := range out {
		out[i] = bitset.New(with.size())
	}
	open := bitset.New(with.size())
	for _, e := range edges {
		if of.has(e.option) && !e.over {
			out[e.option-of.from].Lay(open, open)
		}
		if !with.has(e.option) {
			continue
		}
		if e.over {
			open.Take(e.option - with.from)
		} else {
			open.Put(e.option - with.from)
		}
	}
	return out
}
