// Package span is layer 1: see shared/doc/01-span.md.
package span

import (
	"cmp"
	"iter"
	"slices"
	"sort"

	"umlaut/api"
)

// Check tells whether a list is plain.
func Check(s []api.Span) bool {
	for i, x := range s {
		if x.Lo > x.Hi || x.Lo < -api.MaxNum || x.Hi > api.MaxNum {
			return false
		}
		if i > 0 && x.Lo <= s[i-1].Hi+1 {
			return false
		}
	}
	return true
}

// Norm is the plain list of a set.
func Norm(l []api.Span) []api.Span {
	own := slices.Grow([]api.Span(nil), len(l))
	for _, x := range l {
		own = put(own, x.Lo, x.Hi)
	}
	slices.SortFunc(own, func(x, y api.Span) int { return cmp.Compare(x.Lo, y.Lo) })
	return join(own)
}

// put lays what the numbers have of a span behind a list.
func put(l []api.Span, lo, hi int) []api.Span {
	lo, hi = max(lo, -api.MaxNum), min(hi, api.MaxNum)
	if lo > hi {
		return l
	}
	return append(l, api.Span{Lo: lo, Hi: hi})
}

// join makes one of spans that lie over or next to one another, in the list's own memory; they rise by Lo, and each has something.
func join(l []api.Span) []api.Span {
	n := 0
	for _, x := range l {
		if n > 0 && x.Lo <= l[n-1].Hi+1 {
			l[n-1].Hi = max(l[n-1].Hi, x.Hi)
			continue
		}
		l[n] = x
		n++
	}
	return l[:n]
}

// plain is the plain list of a set, to be read only: it may be the one that was handed in, as most lists are plain already.
func plain(s []api.Span) []api.Span {
	if Check(s) {
		return s
	}
	return Norm(s)
}

// Has tells whether a number is in a set.
func Has(s []api.Span, x int) bool {
	if x < -api.MaxNum || x > api.MaxNum {
		return false
	}
	for _, r := range s {
		if r.Lo <= x && x <= r.Hi {
			return true
		}
	}
	return false
}

// Count is how many numbers are in a set.
func Count(s []api.Span) int {
	n := 0
	for _, r := range plain(s) {
		n += r.Hi - r.Lo + 1
	}
	return n
}

// First is the least number of a set.
func First(s []api.Span) (int, bool) {
	p := plain(s)
	if len(p) == 0 {
		return 0, false
	}
	return p[0].Lo, true
}

// Last is the greatest number of a set.
func Last(s []api.Span) (int, bool) {
	p := plain(s)
	if len(p) == 0 {
		return 0, false
	}
	return p[len(p)-1].Hi, true
}

// At is a set's number at a place.
func At(s []api.Span, i int) (int, bool) {
	if i < 0 {
		return 0, false
	}
	for _, r := range plain(s) {
		n := r.Hi - r.Lo + 1
		if i < n {
			return r.Lo + i, true
		}
		i -= n
	}
	return 0, false
}

// Each goes through a set's numbers.
func Each(s []api.Span) iter.Seq[int] {
	// The list may be written to before the numbers are asked for: so they are those of a list of our own.
	own := Norm(s)
	return func(yield func(int) bool) {
		for _, r := range own {
			for x := r.Lo; x <= r.Hi; x++ {
				if !yield(x) {
					return
				}
			}
		}
	}
}

// Union is what is in one of two sets.
func Union(a, b []api.Span) []api.Span {
	return Norm(slices.Concat(a, b))
}

// Meet is what is in both.
func Meet(a, b []api.Span) []api.Span {
	p, q := plain(a), plain(b)
	if len(p) == 1 {
		p, q = q, p
	}
	if len(q) == 1 {
		return clip(p, q[0])
	}
	out := slices.Grow([]api.Span(nil), min(len(p), len(q)))
	for i, j := 0, 0; i < len(p) && j < len(q); {
		out = put(out, max(p[i].Lo, q[j].Lo), min(p[i].Hi, q[j].Hi))
		if p[i].Hi < q[j].Hi {
			i++
		} else {
			j++
		}
	}
	return out
}

// clip is what a plain list has of a span: most lists are held against one span, and have nothing else.
func clip(p []api.Span, r api.Span) []api.Span {
	from := sort.Search(len(p), func(i int) bool { return p[i].Hi >= r.Lo })
	to := sort.Search(len(p), func(i int) bool { return p[i].Lo > r.Hi })
	if from >= to {
		return nil
	}
	out := slices.Clone(p[from:to])
	out[0].Lo = max(out[0].Lo, r.Lo)
	out[len(out)-1].Hi = min(out[len(out)-1].Hi, r.Hi)
	return out
}

// Minus is what is in the first one alone.
func Minus(a, b []api.Span) []api.Span {
	q := plain(b)
	var out []api.Span
	for _, r := range plain(a) {
		for len(q) > 0 && q[0].Hi < r.Lo {
			q = q[1:]
		}
		out = cut(out, r, q)
	}
	return out
}

// cut lays what a plain list leaves of a span behind another list; nothing of the plain list lies ahead of the span.
func cut(l []api.Span, r api.Span, q []api.Span) []api.Span {
	lo := r.Lo
	for _, x := range q {
		if x.Lo > r.Hi {
			break
		}
		l = put(l, lo, x.Lo-1)
		lo = x.Hi + 1
	}
	return put(l, lo, r.Hi)
}

// Within tells whether all of a set is in another one.
func Within(a, b []api.Span) bool {
	return len(Minus(a, b)) == 0
}

// Meets tells whether two sets have something in common.
func Meets(a, b []api.Span) bool {
	p, q := plain(a), plain(b)
	for len(p) > 0 && len(q) > 0 {
		switch {
		case p[0].Hi < q[0].Lo:
			p = p[1:]
		case q[0].Hi < p[0].Lo:
			q = q[1:]
		default:
			return true
		}
	}
	return false
}

// Move is a set, moved.
func Move(s []api.Span, by int) []api.Span {
	// Farther than that nothing stays a number, and sums might wrap round.
	if by < -2*api.MaxNum || by > 2*api.MaxNum {
		return nil
	}
	p := plain(s)
	out := slices.Grow([]api.Span(nil), len(p))
	for _, r := range p {
		out = put(out, r.Lo+by, r.Hi+by)
	}
	return out
}
