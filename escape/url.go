package escape

import (
	"umlaut/api"
	"umlaut/part"
	"umlaut/span"
	"umlaut/term"
)

// sign is ahead of the two hex digits of a byte.
const sign = '%'

// A hex digit tells of so many bits.
const digitBits = 4

// digits is the hex digits that are written.
const digits = "0123456789ABCDEF"

// Unreserved tells whether a byte is.
func Unreserved(b byte) bool {
	return span.Has(unreserved(), int(b))
}

// unreserved is the unreserved bytes.
func unreserved() []api.Span {
	return []api.Span{{Lo: '-', Hi: '.'}, {Lo: '0', Hi: '9'}, {Lo: 'A', Hi: 'Z'}, {Lo: '_', Hi: '_'}, {Lo: 'a', Hi: 'z'}, {Lo: '~', Hi: '~'}}
}

// Percent is what is written of a byte.
func Percent(b byte) []byte {
	if Unreserved(b) {
		return []byte{b}
	}
	return []byte{sign, digits[b>>digitBits], digits[b&(1<<digitBits-1)]}
}

// Url escapes bytes.
func Url() api.Desc {
	d := single(api.Bytes)
	d.Rules = append(d.Rules, eats(1, window(unreserved()), same(0)))
	others := not(api.Bytes, unreserved())
	upper := api.Part{Drop: digitBits, Take: digitBits}
	lower := api.Part{Take: digitBits}
	for _, u := range written() {
		for _, l := range written() {
			guard := span.Meet(part.Pre(upper, others, u.values), part.Pre(lower, others, l.values))
			d.Rules = append(d.Rules, eats(1, window(guard), term.Const(sign), u.of(upper), l.of(lower)))
		}
	}
	return d
}

// row is hex digits that stand one behind the other: their values, and how much more each digit is than its value.
type row struct {
	values []api.Span
	more   int
}

// written is the rows of the digits that are written.
func written() []row {
	return []row{
		{[]api.Span{{Lo: 0, Hi: 9}}, '0'},
		{[]api.Span{{Lo: 10, Hi: 15}}, 'A' - 10},
	}
}

// of is the term of a row's digit whose value is a part.
func (r row) of(p api.Part) api.Term {
	return api.Term{Take: api.MaxBits, Sum: r.more, Parts: []api.Part{p}}
}

// Unurl turns back what Url writes.
func Unurl() api.Desc {
	d := single(api.Bytes)
	first, hex := only(sign), hexDigits()
	d.Rules = []api.Rule{
		eats(1, window(not(api.Bytes, first)), same(0)),
		eats(1, window(first, not(api.Bytes, hex)), term.Const(sign)),
		// The digit is no sign, so it is itself: and less is read ahead than if the sign alone were eaten.
		eats(2, window(first, hex, not(api.Bytes, hex)), term.Const(sign), same(1)),
	}
	for _, u := range read() {
		for _, l := range read() {
			d.Rules = append(d.Rules, eats(3, window(first, u.digits, l.digits), pair(u, l)))
		}
	}
	d.Finals = append(d.Finals, final(window(first), term.Const(sign)), final(window(first, hex), term.Const(sign), same(1)))
	return d
}

// kind is hex digits whose values are their lowest bits, and as much more for each of them.
type kind struct {
	digits []api.Span
	more   int
}

// read is the kinds of the digits that are read.
func read() []kind {
	return []kind{
		{[]api.Span{{Lo: '0', Hi: '9'}}, 0},
		{[]api.Span{{Lo: 'A', Hi: 'F'}, {Lo: 'a', Hi: 'f'}}, 9},
	}
}

// hexDigits is all hex digits.
func hexDigits() []api.Span {
	var out []api.Span
	for _, k := range read() {
		out = span.Union(out, k.digits)
	}
	return out
}

// pair is the term of the byte of two digits behind a sign, of two kinds.
func pair(upper, lower kind) api.Term {
	return api.Term{Take: api.MaxBits, Sum: upper.more<<digitBits + lower.more, Parts: []api.Part{
		{At: 2, Take: digitBits},
		{At: 1, Take: digitBits, Up: digitBits},
	}}
}
