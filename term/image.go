package term

import (
	"math/bits"
	"slices"

	"umlaut/api"
	"umlaut/part"
	"umlaut/shape"
	"umlaut/span"
)

// Image is the values of all windows.
func Image(t api.Term, guards [][]api.Span) ([]api.Span, bool) {
	if len(guards) > api.MaxWindow || !shape.Numbers(t) || !shape.Parts(t, len(guards)) {
		return nil, false
	}
	if empty(guards) {
		return nil, true
	}
	inner, ok := inners(t, guards)
	if !ok {
		return nil, false
	}
	return span.Move(part.Image(shape.Outer(t), inner), t.Base), true
}

// empty tells whether no window is the guards'.
func empty(guards [][]api.Span) bool {
	for _, g := range guards {
		if span.Count(g) == 0 {
			return true
		}
	}
	return false
}

// inners is the inner values of all windows of guards, of which none is empty; none, if one isn't a symbol.
func inners(t api.Term, guards [][]api.Span) ([]api.Span, bool) {
	at := shape.Places(t.Parts)
	var each [][]api.Span
	least, greatest := t.Sum, t.Sum
	for i, g := range guards {
		if !span.Within(g, shape.Symbols()) {
			return nil, false
		}
		own := joint(at[i], g)
		lo, _ := span.First(own)
		hi, _ := span.Last(own)
		least, greatest = least+lo, greatest+hi
		each = append(each, own)
	}
	// The places' symbols don't hang on one another: so the least and the greatest sum both come of a window.
	if !symbol(least) || !symbol(greatest) {
		return nil, false
	}
	sum := []api.Span{{}}
	// The small values first: so they fill the gaps between the great ones, and the lists stay short.
	for _, at := range slices.Backward(shape.Order(t.Parts)) {
		sum = shape.Sums(sum, each[at])
	}
	return span.Move(sum, t.Sum), true
}

// joint is what the parts of one place come to together, of the symbols of a set that isn't empty.
func joint(parts []api.Part, s []api.Span) []api.Span {
	switch len(parts) {
	case 0:
		return []api.Span{{}}
	case 1:
		return part.Image(parts[0], s)
	}
	// Parts come to the sum of what they come to of each bit: so whatever the bits above are, those below add the same.
	low := [][]api.Span{{{}}}
	var out []api.Span
	for _, r := range span.Norm(s) {
		for x := r.Lo; x <= r.Hi; {
			n := free(x, r.Hi)
			for k := len(low) - 1; k < n; k++ {
				low = append(low, span.Union(low[k], span.Move(low[k], shape.Total(parts, 1<<k))))
			}
			out = append(out, span.Move(low[n], shape.Total(parts, x))...)
			x += 1 << n
		}
	}
	return span.Norm(out)
}

// free is how many low bits of x, all 0, can be anything below a greatest number.
func free(x, most int) int {
	return min(bits.TrailingZeros(uint(x)), bits.Len(uint(most-x+1))-1)
}
