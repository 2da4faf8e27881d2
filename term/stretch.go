package term

import (
	"umlaut/api"
	"umlaut/part"
	"umlaut/shape"
	"umlaut/span"
)

// stretch is how a term goes on from a symbol, as long as it goes on alike, up to the last one: it has no value, or it has one that grows by as much with each symbol.
type stretch struct {
	last        int
	has         bool
	value, grow int
}

// Pre is the symbols of which a term's value is in a set.
func Pre(t api.Term, s, g []api.Span) []api.Span {
	own, wanted := asked(s, t), span.Norm(g)
	var out []api.Span
	for _, r := range own {
		for x := r.Lo; x <= r.Hi; {
			f := along(t, x)
			f.last = min(f.last, r.Hi)
			out = hit(out, f, x, wanted)
			x = f.last + 1
		}
	}
	return span.Norm(out)
}

// Equal is the symbols of which two terms have one value.
func Equal(a, b api.Term, s []api.Span) []api.Span {
	var out []api.Span
	for _, r := range asked(s, a, b) {
		for x := r.Lo; x <= r.Hi; {
			f, g := along(a, x), along(b, x)
			last := min(f.last, g.last, r.Hi)
			if f.has && g.has {
				out = cross(out, x, last, g.value-f.value, f.grow-g.grow)
			}
			x = last + 1
		}
	}
	return span.Norm(out)
}

// asked is the symbols of a set of which terms may have values.
func asked(s []api.Span, terms ...api.Term) []api.Span {
	for _, t := range terms {
		if !shape.Parts(t, 1) || !part.Right(shape.Outer(t), 1) {
			return nil
		}
	}
	return span.Meet(s, shape.Symbols())
}

// along is how a term goes on from a symbol.
func along(t api.Term, x int) stretch {
	f := stretch{last: api.MaxRune, value: t.Sum}
	for _, p := range t.Parts {
		v, _ := part.Value(p, x)
		last, grow := alike(p, x)
		f.last, f.value, f.grow = min(f.last, last), f.value+v, f.grow+grow
	}
	inner := f.value
	value, ok := whole(t, inner)
	if !ok {
		return stretch{last: x + lasts(f.last-x, f.grow, inner, -1)}
	}
	last, grow := alike(shape.Outer(t), inner)
	return stretch{
		last:  x + lasts(f.last-x, f.grow, inner, min(last, api.MaxRune)),
		has:   true,
		value: value,
		grow:  f.grow * grow,
	}
}

// alike is up to which number a part's value goes on alike, and by how much it grows with each.
func alike(p api.Part, x int) (int, int) {
	if p.Drop > 0 {
		return x | (1<<p.Drop - 1), 0
	}
	return x | (1<<p.Take - 1), 1 << p.Up
}

// lasts is how many steps there are, n at most, till a number that grows is above a bound; all, if it is above it now.
func lasts(n, grow, from, bound int) int {
	if grow == 0 || from > bound {
		return n
	}
	return min(n, (bound-from)/grow)
}

// hit lays those of a stretch's symbols whose values are in a plain list behind another list.
func hit(l []api.Span, f stretch, x int, wanted []api.Span) []api.Span {
	if !f.has {
		return l
	}
	if f.grow == 0 {
		if span.Has(wanted, f.value) {
			return append(l, api.Span{Lo: x, Hi: f.last})
		}
		return l
	}
	for _, r := range span.Meet(wanted, []api.Span{{Lo: f.value, Hi: f.value + f.grow*(f.last-x)}}) {
		l = append(l, api.Span{Lo: x + (r.Lo-f.value+f.grow-1)/f.grow, Hi: x + (r.Hi-f.value)/f.grow})
	}
	return l
}

// cross lays those of the symbols from x to last where two values that are apart come together behind a list: closer is by how much they come closer with each symbol.
func cross(l []api.Span, x, last, apart, closer int) []api.Span {
	if closer == 0 {
		if apart == 0 {
			l = append(l, api.Span{Lo: x, Hi: last})
		}
		return l
	}
	if n := apart / closer; apart%closer == 0 && 0 <= n && n <= last-x {
		l = append(l, api.Span{Lo: x + n, Hi: x + n})
	}
	return l
}
