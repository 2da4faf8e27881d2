package box

import (
	"cmp"
	"slices"
	"sort"

	"umlaut/api"
	"umlaut/shape"
	"umlaut/span"
)

// mostSymbols is how many symbols a place may have, of which one of several parts tells: as many as there are bytes, as no others are put together of parts.
const mostSymbols = 256

// place is one of those of which parts tell.
type place struct {
	at      int
	classes []class
	behind  []api.Span // what the places behind it come to, all together
}

// class is the symbols of a place that lead to one value.
type class struct {
	value   int
	symbols []api.Span
}

// group is the symbols of a place behind which the same is wanted.
type group struct {
	symbols, wanted []api.Span
}

// places is the places of which a term's parts tell, in order, and what they come to, all together; none, and false, if one has too many symbols.
func places(t api.Term, all [][]api.Span) ([]place, []api.Span, bool) {
	parts := shape.Places(t.Parts)
	var out []place
	// Behind symbols that move the value much, the same is wanted more often: so boxes are fewer, if these come first.
	for _, at := range shape.Order(t.Parts) {
		if span.Count(all[at]) > mostSymbols {
			return nil, nil, false
		}
		out = append(out, place{at: at, classes: classes(parts[at], all[at])})
	}
	// Beyond the greatest symbol there is no value: so nothing above it counts.
	reach := []api.Span{{Lo: 0, Hi: api.MaxRune - t.Sum}}
	sums := []api.Span{{}}
	for i, p := range slices.Backward(out) {
		out[i].behind = sums
		sums = span.Meet(shape.Sums(span.Meet(values(p.classes), reach), sums), reach)
	}
	return out, sums, true
}

// classes is a place's symbols by the value that its parts lead to, the least value first.
func classes(parts []api.Part, symbols []api.Span) []class {
	by := map[int][]api.Span{}
	for x := range span.Each(symbols) {
		v := shape.Total(parts, x)
		by[v] = append(by[v], api.Span{Lo: x, Hi: x})
	}
	var out []class
	for v, l := range by {
		out = append(out, class{value: v, symbols: l})
	}
	slices.SortFunc(out, func(a, b class) int { return cmp.Compare(a.value, b.value) })
	return out
}

// values is what classes lead to.
func values(l []class) []api.Span {
	var out []api.Span
	for _, c := range l {
		out = append(out, api.Span{Lo: c.value, Hi: c.value})
	}
	return span.Norm(out)
}

// groups is a place's symbols, parted by what is wanted of the places behind; those behind which nothing can be had are gone.
func (p place) groups(wanted []api.Span) []group {
	var out []group
	for _, c := range p.classes {
		rest := p.rest(wanted, c.value)
		if len(rest) == 0 {
			continue
		}
		i := slices.IndexFunc(out, func(g group) bool { return slices.Equal(g.wanted, rest) })
		if i < 0 {
			i = len(out)
			out = append(out, group{wanted: rest})
		}
		out[i].symbols = append(out[i].symbols, c.symbols...)
	}
	return out
}

// rest is what the places behind can come to, and is wanted of them, where this one comes to a value.
func (p place) rest(wanted []api.Span, value int) []api.Span {
	lo, _ := span.First(p.behind)
	hi, _ := span.Last(p.behind)
	return span.Meet(span.Move(near(wanted, lo+value, hi+value), -value), p.behind)
}

// near is those spans of a plain list that have something from lo to hi: most of a long list is far from that.
func near(l []api.Span, lo, hi int) []api.Span {
	from := sort.Search(len(l), func(i int) bool { return l[i].Hi >= lo })
	to := sort.Search(len(l), func(i int) bool { return l[i].Lo > hi })
	return l[from:to]
}
