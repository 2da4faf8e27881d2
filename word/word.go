// Package word is layer 2: see shared/doc/02-word.md.
package word

import (
	"slices"

	"umlaut/api"
)

// The ends of the sorts; what lies from lowSurrogate to highSurrogate is no scalar.
const (
	maxByte       = 0xff
	lowSurrogate  = 0xd800
	highSurrogate = 0xdfff
)

// Of is the scalars of a text.
func Of(s string) []rune {
	var out []rune
	for _, x := range s {
		out = append(out, x)
	}
	return out
}

// Text is the text of scalars.
func Text(w []rune) (string, bool) {
	if !Fits(api.Scalars, w) {
		return "", false
	}
	return string(w), true
}

// Raw is bytes as symbols.
func Raw(b []byte) []rune {
	out := make([]rune, len(b))
	for i, x := range b {
		out[i] = rune(x)
	}
	return out
}

// Bytes is symbols as bytes.
func Bytes(w []rune) ([]byte, bool) {
	if !Fits(api.Bytes, w) {
		return nil, false
	}
	out := make([]byte, len(w))
	for i, x := range w {
		out[i] = byte(x)
	}
	return out, true
}

// Domain is the symbols of a sort.
func Domain(s api.Sort) []api.Span {
	switch s {
	case api.Bytes:
		return []api.Span{{Lo: 0, Hi: maxByte}}
	case api.Scalars:
		return []api.Span{{Lo: 0, Hi: lowSurrogate - 1}, {Lo: highSurrogate + 1, Hi: api.MaxRune}}
	}
	return nil
}

// In tells whether a symbol is of a sort.
func In(s api.Sort, x rune) bool {
	switch s {
	case api.Bytes:
		return 0 <= x && x <= maxByte
	case api.Scalars:
		return 0 <= x && x < lowSurrogate || highSurrogate < x && x <= api.MaxRune
	}
	return false
}

// Fits tells whether all symbols are of a sort.
func Fits(s api.Sort, w []rune) bool {
	for _, x := range w {
		if !In(s, x) {
			return false
		}
	}
	return true
}

// Compare tells which of two words comes first.
func Compare(a, b []rune) int {
	return slices.Compare(a, b)
}

// Front is how many symbols two words begin with alike.
func Front(a, b []rune) int {
	n := 0
	for n < len(a) && n < len(b) && a[n] == b[n] {
		n++
	}
	return n
}

// Sort is words in their order, each once.
func Sort(l [][]rune) [][]rune {
	in := slices.Concat(l)
	slices.SortFunc(in, Compare)
	var out [][]rune
	for i, w := range in {
		if i == 0 || Compare(in[i-1], w) != 0 {
			out = append(out, fresh(w))
		}
	}
	return out
}

// fresh is a word in memory of its own.
func fresh(w []rune) []rune {
	out := make([]rune, len(w))
	copy(out, w)
	return out
}
