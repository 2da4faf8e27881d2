package part_test

import (
	"math"
	"slices"
	"testing"

	"umlaut/api"
	"umlaut/part"
	"umlaut/span"
)

// top is the greatest number that has a value.
const top = 2097151

// of writes a list by its bounds.
func of(bounds ...int) []api.Span {
	var l []api.Span
	for i := 0; i < len(bounds); i += 2 {
		l = append(l, api.Span{Lo: bounds[i], Hi: bounds[i+1]})
	}
	return l
}

// between is the chapter's "from lo to hi".
func between(lo, x, hi int) bool {
	return lo <= x && x <= hi
}

// bitsRight is the chapter's words, without what they say of At.
func bitsRight(p api.Part) bool {
	return between(0, p.Drop, 20) && between(1, p.Take, 21) && between(0, p.Up, 20) && (p.Up <= 0 || p.Take <= 6)
}

// power is 2^n.
func power(n int) int {
	x := 1
	for range n {
		x *= 2
	}
	return x
}

// value is the chapter's words.
func value(p api.Part, x int) (int, bool) {
	if !bitsRight(p) || !between(0, x, top) {
		return 0, false
	}
	return x / power(p.Drop) % power(p.Take) * power(p.Up), true
}

// edges of each field of a part.
var (
	places = []int{math.MinInt, -1, 0, 1, 2, 3, 4, 5, math.MaxInt}
	drops  = []int{math.MinInt, -1, 0, 1, 6, 19, 20, 21, 64, math.MaxInt}
	takes  = []int{math.MinInt, -1, 0, 1, 2, 5, 6, 7, 20, 21, 22, 64, math.MaxInt}
	ups    = []int{math.MinInt, -1, 0, 1, 2, 19, 20, 21, 64, math.MaxInt}
)

// parts is all parts of these fields, of the place 0.
func parts(drops, takes, ups []int) []api.Part {
	var out []api.Part
	for _, drop := range drops {
		for _, take := range takes {
			for _, up := range ups {
				out = append(out, api.Part{Drop: drop, Take: take, Up: up})
			}
		}
	}
	return out
}

// P3.1
func TestRight(t *testing.T) {
	for _, p := range parts(drops, takes, ups) {
		for _, p.At = range places {
			for _, n := range []int{math.MinInt, -1, 0, 1, 2, 4, 5, math.MaxInt} {
				if got, want := part.Right(p, n), bitsRight(p) && 0 <= p.At && p.At < n; got != want {
					t.Fatalf("Right(%v, %d): %v", p, n, got)
				}
			}
		}
	}
}

// P3.1
func TestWhole(t *testing.T) {
	for _, at := range places {
		if got := part.Whole(at); got != (api.Part{At: at, Drop: 0, Take: 21, Up: 0}) {
			t.Errorf("Whole(%d): %v", at, got)
		}
	}
}

// P3.1: at all edges, whatever At is.
func TestValue(t *testing.T) {
	numbers := []int{math.MinInt, -top, -2, -1, top, top + 1, top + 2, 2 * top, math.MaxInt}
	for x := 0; x < 300; x++ {
		numbers = append(numbers, x, top-x, 0x10ffff+x-150, x*6997)
	}
	for i, p := range parts(drops, takes, ups) {
		p.At = places[i%len(places)]
		for _, x := range numbers {
			got, ok := part.Value(p, x)
			if want, has := value(p, x); got != want || ok != has {
				t.Fatalf("Value(%v, %d): %d, %v, not %d, %v", p, x, got, ok, want, has)
			}
		}
	}
	if got, ok := part.Value(api.Part{Drop: 6, Take: 6, Up: 8}, 0x1fff); got != 0x3f00 || !ok {
		t.Errorf("Value: %x, %v", got, ok)
	}
}

// has is chapter 1's word.
func has(l []api.Span, x int) bool {
	return between(-api.MaxNum, x, api.MaxNum) && slices.ContainsFunc(l, func(s api.Span) bool { return between(s.Lo, x, s.Hi) })
}

// set is the plain list of numbers.
func set(l []int) []api.Span {
	var out []api.Span
	for _, x := range l {
		out = append(out, api.Span{Lo: x, Hi: x})
	}
	return span.Norm(out)
}

// image is the values of the numbers of a set that lie in some spans.
func image(p api.Part, s, among []api.Span) []int {
	var out []int
	for _, r := range among {
		for x := r.Lo; x <= r.Hi; x++ {
			if v, ok := value(p, x); ok && has(s, x) {
				out = append(out, v)
			}
		}
	}
	return out
}

// pre is the numbers of a set that lie in some spans, and whose values are in another set.
func pre(p api.Part, s, g, among []api.Span) []int {
	var out []int
	for _, r := range among {
		for x := r.Lo; x <= r.Hi; x++ {
			if v, ok := value(p, x); ok && has(s, x) && has(g, v) {
				out = append(out, x)
			}
		}
	}
	return out
}

// among is where the numbers of sets lie: at both ends of those that have values, and in the midst, over a bit's turn.
func among() []api.Span {
	return of(-3, 140, 0xfff0, 0x10020, top-140, top+3)
}

// sets of these numbers, in any form.
func sets() [][]api.Span {
	return [][]api.Span{
		nil, {}, of(3, 5), of(0, 0), of(-3, -1), of(-3, 0), of(0, 63), of(1, 64), of(62, 65), of(63, 64), of(0, 140), of(7, 7, 9, 9, 11, 11, 128, 130),
		of(40, 50, 3, 5, 4, 9, 8, 2), of(5, 4), of(0xfff0, 0x1000f), of(0xfff0, 0x10020), of(0xffff, 0x10000),
		of(top-140, top+3), of(top, top), of(top-1, top+3), of(top+1, top+3), of(2, 2, top-2, top-2), of(0, 3, 64, 66, top-63, top-60),
	}
}

// bitsTried is the parts that sets are gone through with: right ones, and a few others.
func bitsTried() []api.Part {
	out := parts([]int{0, 1, 2, 5, 6, 7, 19, 20}, []int{1, 2, 3, 6}, []int{0, 1, 3, 20})
	out = append(out, parts([]int{0, 1, 6, 16, 20}, []int{7, 15, 16, 20, 21}, []int{0})...)
	return append(out, api.Part{}, api.Part{Take: 22}, api.Part{Take: 7, Up: 1}, api.Part{Take: 3, Drop: 21}, api.Part{Take: 3, Up: -1}, api.Part{Take: -1}, api.Part{Take: 3, Drop: -1}, api.Part{Take: 2, Up: 21})
}

// P3.2: held against the words, number by number.
func TestImage(t *testing.T) {
	for _, p := range bitsTried() {
		p.At = -7
		for _, s := range sets() {
			values := image(p, s, among())
			if got, want := part.Image(p, s), set(values); !slices.Equal(got, want) {
				t.Fatalf("Image(%v, %v): %v, not %v", p, s, got, want)
			}
			slices.Sort(values)
			if got, want := part.Same(p, s), len(slices.Compact(values)) <= 1; got != want {
				t.Fatalf("Same(%v, %v): %v", p, s, got)
			}
		}
	}
}

// P3.2: held against the words, number by number.
func TestPre(t *testing.T) {
	goals := append(sets(), of(0, 1, 3, 3), of(0, 0, 2, 2, 4, 4, 8, 24), of(-api.MaxNum-9, api.MaxNum+9), of(1, 7), of(-5, -1), of(3<<20, 3<<20, 1<<20, 1<<20, 63<<20, 63<<20), of(56, 56, 8, 9, 20, 30))
	for _, p := range bitsTried() {
		p.At = 9
		for _, s := range sets() {
			for _, g := range goals {
				if got, want := part.Pre(p, s, g), set(pre(p, s, g, among())); !slices.Equal(got, want) {
					t.Fatalf("Pre(%v, %v, %v): %v, not %v", p, s, g, got, want)
				}
			}
		}
	}
}

// P3.2: the chapter's examples, and sets of all numbers.
func TestSetsEdges(t *testing.T) {
	all := of(math.MinInt, math.MaxInt)
	wantSpans := func(what string, got, want []api.Span) {
		t.Helper()
		if !slices.Equal(got, want) {
			t.Errorf("%s: %v, not %v", what, got, want)
		}
	}
	wantSpans("Image", part.Image(api.Part{Take: 2}, of(3, 5)), of(0, 1, 3, 3))
	wantSpans("Pre", part.Pre(api.Part{Take: 2}, of(0, 9), of(3, 3)), of(3, 3, 7, 7))
	wantSpans("Image of all", part.Image(part.Whole(0), all), of(0, top))
	wantSpans("Image of all", part.Image(api.Part{Drop: 20, Take: 21}, all), of(0, 1))
	wantSpans("Image of all", part.Image(api.Part{Take: 2, Up: 20}, all), of(0, 0, 1<<20, 1<<20, 2<<20, 2<<20, 3<<20, 3<<20))
	wantSpans("Pre of all", part.Pre(part.Whole(5), all, all), of(0, top))
	wantSpans("Pre of all", part.Pre(part.Whole(5), all, of(-9, 3, top, top+9)), of(0, 3, top, top))
	wantSpans("Pre of all", part.Pre(api.Part{Drop: 20, Take: 1}, all, of(1, 1)), of(1<<20, top))
	wantSpans("Pre of all", part.Pre(api.Part{Drop: 20, Take: 21}, all, of(0, 1)), of(0, top))
	wantSpans("Pre of none", part.Pre(part.Whole(0), nil, all), nil)
	wantSpans("Pre of none", part.Pre(part.Whole(0), all, nil), nil)
	if !part.Same(part.Whole(0), nil) || !part.Same(part.Whole(0), of(-9, -1)) || !part.Same(api.Part{}, all) || !part.Same(part.Whole(0), of(-9, 0)) {
		t.Error("Same: false")
	}
	if part.Same(api.Part{Take: 1}, all) || part.Same(part.Whole(0), of(-9, 1)) || !part.Same(api.Part{Drop: 20, Take: 1}, of(-9, 1<<20-1)) || part.Same(api.Part{Drop: 20, Take: 1}, of(-9, 1<<20)) {
		t.Error("Same")
	}

	odd := part.Pre(api.Part{Take: 1}, all, of(1, 1))
	if n := len(odd); n != 1<<20 || odd[0] != (api.Span{Lo: 1, Hi: 1}) || odd[n-1] != (api.Span{Lo: top, Hi: top}) || !span.Check(odd) {
		t.Errorf("the odd ones: %d", n)
	}
	var twice []int
	for x := 1; x < 64; x += 2 {
		twice = append(twice, 2*x)
	}
	wantSpans("Image of the odd ones", part.Image(api.Part{Take: 6, Up: 1}, odd), set(twice))
}

// P3.3
func TestLaws(t *testing.T) {
	for _, p := range bitsTried() {
		for _, s := range sets() {
			for _, r := range among() {
				for x := r.Lo; x <= r.Hi; x++ {
					if got, ok := part.Value(part.Whole(3), x); ok != between(0, x, top) || ok && got != x {
						t.Fatalf("Value of what takes all, %d: %d, %v", x, got, ok)
					}
					v, ok := part.Value(p, x)
					if ok && has(s, x) && (!span.Has(part.Pre(p, s, of(v, v)), x) || !span.Has(part.Image(p, s), v)) {
						t.Fatalf("%v of %v: %d isn't in Pre of its value %d", p, s, x, v)
					}
				}
			}
		}
	}
}

// Rule 4: what is handed in isn't changed, its spare room neither; what is answered is new memory.
func TestMemory(t *testing.T) {
	for _, p := range []api.Part{part.Whole(0), {Take: 2}, {Drop: 1, Take: 6, Up: 3}, {Drop: 20, Take: 21}} {
		for _, l := range [][]api.Span{of(0, 9), of(0, 9, 20, 30), of(20, 30, 0, 9, 5, 6)} {
			s, g := roomy(l), roomy(l)
			for _, call := range []func() []api.Span{
				func() []api.Span { return part.Image(p, s) },
				func() []api.Span { return part.Pre(p, s, g) },
				func() []api.Span { part.Same(p, s); return nil },
			} {
				first := call()
				kept := slices.Clone(first)
				for i := range first {
					first[i] = api.Span{Lo: -77, Hi: -77}
				}
				_ = append(first, api.Span{Lo: -78, Hi: -78})
				if !slices.Equal(s[:cap(s)], roomy(l)[:cap(s)]) || !slices.Equal(g[:cap(g)], roomy(l)[:cap(g)]) {
					t.Fatalf("%v of %v: what was handed in is changed", p, l)
				}
				if !slices.Equal(call(), kept) {
					t.Fatalf("%v of %v: another answer, once more", p, l)
				}
			}
		}
	}
}

// roomy is a list with spare room that is written to.
func roomy(l []api.Span) []api.Span {
	out := make([]api.Span, len(l)+3)
	for i := copy(out, l); i < len(out); i++ {
		out[i] = api.Span{Lo: 1000 + i, Hi: 2000 + i}
	}
	return out[: len(l) : len(l)+3]
}
