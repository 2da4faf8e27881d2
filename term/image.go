package term

import (
	"math/bits"

	"umlaut/api"
	"umlaut/part"
	"umlaut/span"
)

// fewPairs is how many pairs of spans are added one by one and sorted; more of them are counted number by number.
const fewPairs = 1 << 14

// Image is the values of all windows.
func Image(t api.Term, guards [][]api.Span) ([]api.Span, bool) {
	if len(guards) > api.MaxWindow || !numbersRight(t) || !partsRight(t, len(guards)) {
		return nil, false
	}
	if empty(guards) {
		return nil, true
	}
	inner, ok := inners(t, guards)
	if !ok {
		return nil, false
	}
	return span.Move(part.Image(outer(t), inner), t.Base), true
}

// empty tells whether no window is the guards'.
func empty(guards [][]api.Span) bool {
	for _, g := range guards {
		if span.Count(g) == 0 {
			return true
		}
	}
	return false
}

// inners is the inner values of all windows of guards, of which none is empty; none, if one isn't a symbol.
func inners(t api.Term, guards [][]api.Span) ([]api.Span, bool) {
	at := places(t.Parts)
	var each [][]api.Span
	least, greatest := t.Sum, t.Sum
	for i, g := range guards {
		if !span.Within(g, symbols()) {
			return nil, false
		}
		own := joint(at[i], g)
		lo, _ := span.First(own)
		hi, _ := span.Last(own)
		least, greatest = least+lo, greatest+hi
		each = append(each, own)
	}
	// The places' symbols don't hang on one another: so the least and the greatest sum both come of a window.
	if !symbol(least) || !symbol(greatest) {
		return nil, false
	}
	sum := []api.Span{{}}
	for _, s := range each {
		sum = sums(sum, s)
	}
	return span.Move(sum, t.Sum), true
}

// places is the parts of each place.
func places(parts []api.Part) map[int][]api.Part {
	at := map[int][]api.Part{}
	for _, p := range parts {
		at[p.At] = append(at[p.At], p)
	}
	return at
}

// joint is what the parts of one place come to together, of the symbols of a set.
func joint(parts []api.Part, s []api.Span) []api.Span {
	if len(parts) == 1 {
		return part.Image(parts[0], s)
	}
	// Parts come to the sum of what they come to of each bit: so whatever the bits above are, those below add the same.
	low := [][]api.Span{{{}}}
	var out []api.Span
	for _, r := range span.Norm(s) {
		for x := r.Lo; x <= r.Hi; {
			n := free(x, r.Hi)
			for k := len(low) - 1; k < n; k++ {
				low = append(low, span.Union(low[k], span.Move(low[k], total(parts, 1<<k))))
			}
			out = append(out, span.Move(low[n], total(parts, x))...)
			x += 1 << n
		}
	}
	return span.Norm(out)
}

// free is how many low bits of x, all 0, can be anything below a greatest number.
func free(x, most int) int {
	return min(bits.TrailingZeros(uint(x)), bits.Len(uint(most-x+1))-1)
}

// total is what parts come to together, of one symbol.
func total(parts []api.Part, x int) int {
	n := 0
	for _, p := range parts {
		v, _ := part.Value(p, x)
		n += v
	}
	return n
}

// sums is all sums of a number of one set and one of another, none below 0.
func sums(a, b []api.Span) []api.Span {
	if len(a)*len(b) > fewPairs {
		return counted(a, b)
	}
	var out []api.Span
	for _, x := range a {
		for _, y := range b {
			out = append(out, api.Span{Lo: x.Lo + y.Lo, Hi: x.Hi + y.Hi})
		}
	}
	return span.Norm(out)
}

// counted is the same sums, told by how many pairs of spans have each number: room for all numbers is less than room for so many pairs.
func counted(a, b []api.Span) []api.Span {
	top := a[len(a)-1].Hi + b[len(b)-1].Hi
	change := make([]int, top+2)
	for _, x := range a {
		for _, y := range b {
			change[x.Lo+y.Lo]++
			change[x.Hi+y.Hi+1]--
		}
	}
	var out []api.Span
	pairs := 0
	for x, c := range change {
		if pairs == 0 && c > 0 {
			out = append(out, api.Span{Lo: x, Hi: x})
		}
		pairs += c
		if pairs > 0 {
			out[len(out)-1].Hi = x
		}
	}
	return out
}
