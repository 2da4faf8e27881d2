package chain

import (
	"cmp"
	"slices"
	"sort"

	"umlaut/api"
)

// readers is the rules of a state, by the spans of symbols that they read.
type readers struct {
	rules  []api.Rule
	ranges []spread
}

// spread is a span of symbols that a rule reads; no span ahead of it, nor it itself, goes beyond far.
type spread struct{ lo, hi, far, rule int }

// readersOf puts rules of one guard each to the spans that they read.
func readersOf(rules []api.Rule) readers {
	r := readers{rules: rules}
	for i, x := range rules {
		for _, s := range x.Guards[0] {
			r.ranges = append(r.ranges, spread{lo: s.Lo, hi: s.Hi, rule: i})
		}
	}
	slices.SortFunc(r.ranges, func(a, b spread) int {
		return cmp.Or(cmp.Compare(a.lo, b.lo), cmp.Compare(a.rule, b.rule))
	})
	far := 0
	for i, s := range r.ranges {
		far = max(far, s.hi)
		r.ranges[i].far = far
	}
	return r
}

// of is the rules that read something of a plain list that has something, in their order, and how many spans were gone through for that.
func (r readers) of(set []api.Span) ([]api.Rule, int) {
	first, last := set[0].Lo, set[len(set)-1].Hi
	from := sort.Search(len(r.ranges), func(i int) bool { return r.ranges[i].far >= first })
	hit := make([]bool, len(r.rules))
	n, gone := from, 0
	for ; n < len(r.ranges) && r.ranges[n].lo <= last; n++ {
		x := r.ranges[n]
		for set[gone].Hi < x.lo {
			gone++
		}
		hit[x.rule] = hit[x.rule] || set[gone].Lo <= x.hi
	}
	var out []api.Rule
	for i, h := range hit {
		if h {
			out = append(out, r.rules[i])
		}
	}
	return out, n - from + gone
}
