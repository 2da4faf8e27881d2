// Package shape is what terms are made of: their numbers and parts, and what these come to.
package shape

import (
	"slices"

	"umlaut/api"
	"umlaut/part"
	"umlaut/span"
)

// Symbols is the symbols of which terms have values.
func Symbols() []api.Span {
	return []api.Span{{Lo: 0, Hi: api.MaxRune}}
}

// Numbers tells whether a term's numbers are right.
func Numbers(t api.Term) bool {
	if !Small(t.Base) || !Small(t.Sum) || !part.Right(Outer(t), 1) || len(t.Parts) > api.MaxParts {
		return false
	}
	for i := 1; i < len(t.Parts); i++ {
		if t.Parts[i].Up <= t.Parts[i-1].Up {
			return false
		}
	}
	return true
}

// Small tells whether a number may be a Base, or a Sum.
func Small(x int) bool {
	return -api.MaxRune <= x && x <= api.MaxRune
}

// Outer is a term's outer part, of a window of one number.
func Outer(t api.Term) api.Part {
	return api.Part{Drop: t.Drop, Take: t.Take, Up: t.Up}
}

// Parts tells whether each of a term's parts is right, of a window of n symbols.
func Parts(t api.Term, n int) bool {
	for _, p := range t.Parts {
		if !part.Right(p, n) {
			return false
		}
	}
	return true
}

// Places is the parts of each place.
func Places(parts []api.Part) map[int][]api.Part {
	at := map[int][]api.Part{}
	for _, p := range parts {
		at[p.At] = append(at[p.At], p)
	}
	return at
}

// Order is the places of which parts tell, those first whose symbols move the value most.
func Order(parts []api.Part) []int {
	var out []int
	for _, p := range slices.Backward(parts) {
		if !slices.Contains(out, p.At) {
			out = append(out, p.At)
		}
	}
	return out
}

// Total is what parts come to together, of one symbol.
func Total(parts []api.Part, x int) int {
	n := 0
	for _, p := range parts {
		v, _ := part.Value(p, x)
		n += v
	}
	return n
}

// fewPairs is how many pairs of spans are added one by one and sorted; more of them are counted number by number.
const fewPairs = 1 << 14

// Sums is all sums of a number of one set and another of a second one; their lists are plain and have something, but nothing below 0.
func Sums(a, b []api.Span) []api.Span {
	if len(a)*len(b) > fewPairs {
		return counted(a, b)
	}
	var out []api.Span
	for _, x := range a {
		for _, y := range b {
			out = append(out, api.Span{Lo: x.Lo + y.Lo, Hi: x.Hi + y.Hi})
		}
	}
	return span.Norm(out)
}

// counted is the same sums, told by how many pairs of spans have each number: room for all numbers is less than room for so many pairs.
func counted(a, b []api.Span) []api.Span {
	top := a[len(a)-1].Hi + b[len(b)-1].Hi
	change := make([]int, top+2)
	for _, x := range a {
		for _, y := range b {
			change[x.Lo+y.Lo]++
			change[x.Hi+y.Hi+1]--
		}
	}
	var out []api.Span
	pairs := 0
	for x, c := range change {
		if pairs == 0 && c > 0 {
			out = append(out, api.Span{Lo: x, Hi: x})
		}
		pairs += c
		if pairs > 0 {
			out[len(out)-1].Hi = x
		}
	}
	return out
}
