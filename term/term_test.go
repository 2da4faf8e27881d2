package term_test

import (
	"math"
	"math/rand"
	"slices"
	"testing"

	"umlaut/api"
	"umlaut/part"
	"umlaut/span"
	"umlaut/term"
)

const top = 0x10ffff

// of writes a list by its bounds.
func of(bounds ...int) []api.Span {
	var l []api.Span
	for i := 0; i < len(bounds); i += 2 {
		l = append(l, api.Span{Lo: bounds[i], Hi: bounds[i+1]})
	}
	return l
}

// all is guards.
func all(guards ...[]api.Span) [][]api.Span {
	return guards
}

// at makes a part; so do the terms below make terms, out of one or more of them.
func at(at, drop, take, up int) api.Part {
	return api.Part{At: at, Drop: drop, Take: take, Up: up}
}

func inner(sum int, parts ...api.Part) api.Term {
	return api.Term{Take: 21, Sum: sum, Parts: parts}
}

func outer(base, drop, take, up, sum int, parts ...api.Part) api.Term {
	return api.Term{Base: base, Drop: drop, Take: take, Up: up, Sum: sum, Parts: parts}
}

// two is the chapter's example.
func two() api.Term {
	return inner(0, at(1, 0, 6, 0), at(0, 0, 5, 6))
}

// same tells whether two terms are one; nil and empty lists are.
func same(a, b api.Term) bool {
	return slices.Equal(a.Parts, b.Parts) && a.Base == b.Base && a.Drop == b.Drop && a.Take == b.Take && a.Up == b.Up && a.Sum == b.Sum
}

// between is the chapter's "from lo to hi".
func between(lo, x, hi int) bool {
	return lo <= x && x <= hi
}

// bitsRight is chapter 3's words.
func bitsRight(p api.Part) bool {
	return between(0, p.Drop, 20) && between(1, p.Take, 21) && between(0, p.Up, 20) && (p.Up <= 0 || p.Take <= 6)
}

// bits is chapter 3's value of right bits, of a number that has one.
func bits(p api.Part, x int) int {
	return x / (1 << p.Drop) % (1 << p.Take) * (1 << p.Up)
}

// outerOf is the outer part.
func outerOf(t api.Term) api.Part {
	return api.Part{Drop: t.Drop, Take: t.Take, Up: t.Up}
}

// numbersRight is the chapter's words.
func numbersRight(t api.Term) bool {
	ok := between(-top, t.Base, top) && between(-top, t.Sum, top) && bitsRight(outerOf(t)) && len(t.Parts) <= 4
	for i := range t.Parts {
		ok = ok && (i == 0 || t.Parts[i].Up > t.Parts[i-1].Up)
	}
	return ok
}

// right is the chapter's words.
func right(t api.Term, in, out api.Sort, n int) bool {
	if in != api.Bytes && in != api.Scalars || out != api.Bytes && out != api.Scalars || !numbersRight(t) {
		return false
	}
	for _, p := range t.Parts {
		if !bitsRight(p) || p.At < 0 || p.At >= n {
			return false
		}
		if in == api.Scalars && (len(t.Parts) > 1 || p.Drop != 0 || p.Take != 21 || p.Up != 0) {
			return false
		}
	}
	return out != api.Scalars || t.Base == 0 && t.Drop == 0 && t.Take == 21 && t.Up == 0
}

// value is the chapter's words.
func value(t api.Term, w []rune) (int, bool) {
	ok := bitsRight(outerOf(t))
	for _, x := range w {
		ok = ok && between(0, int(x), top)
	}
	for _, p := range t.Parts {
		ok = ok && bitsRight(p) && p.At >= 0 && p.At < len(w)
	}
	if !ok {
		return 0, false
	}
	n := t.Sum
	for _, p := range t.Parts {
		n += bits(p, int(w[p.At]))
	}
	if !between(0, n, top) {
		return 0, false
	}
	return t.Base + bits(outerOf(t), n), true
}

// windows is all windows of guards with few numbers.
func windows(guards [][]api.Span) [][]rune {
	out := [][]rune{nil}
	for _, g := range guards {
		var longer [][]rune
		for _, w := range out {
			for x := range span.Each(g) {
				longer = append(longer, append(slices.Clone(w), rune(x)))
			}
		}
		out = longer
	}
	return out
}

// set is the plain list of numbers.
func set(l []int) []api.Span {
	var out []api.Span
	for _, x := range l {
		out = append(out, api.Span{Lo: x, Hi: x})
	}
	return span.Norm(out)
}

// steps is the numbers up to a greatest one, by steps.
func steps(from, by, to int) []int {
	var out []int
	for x := from; x <= to; x += by {
		out = append(out, x)
	}
	return out
}

// image is the chapter's words.
func image(t api.Term, guards [][]api.Span) ([]api.Span, bool) {
	if len(guards) > 4 || !numbersRight(t) {
		return nil, false
	}
	for _, p := range t.Parts {
		if !bitsRight(p) || p.At < 0 || p.At >= len(guards) {
			return nil, false
		}
	}
	var values []int
	for _, w := range windows(guards) {
		v, ok := value(t, w)
		if !ok {
			return nil, false
		}
		values = append(values, v)
	}
	return set(values), true
}

// inSort is chapter 2's word.
func inSort(s api.Sort, x int) bool {
	return s == api.Bytes && between(0, x, 255) || s == api.Scalars && (between(0, x, 0xd7ff) || between(0xe000, x, top))
}

// fits is the chapter's words.
func fits(t api.Term, in, out api.Sort, guards [][]api.Span) bool {
	if len(guards) > 4 || !right(t, in, out, len(guards)) {
		return false
	}
	for _, w := range windows(guards) {
		v, ok := value(t, w)
		symbols := !slices.ContainsFunc(w, func(x rune) bool { return !between(0, int(x), top) })
		if symbols && (!ok || !inSort(out, v)) {
			return false
		}
	}
	return true
}

// sorts is all that a sort may be told to be.
var sorts = []api.Sort{api.Bytes, api.Scalars, 0, 3, -1}

// tries makes what is tried out, the same at every run.
type tries struct{ *rand.Rand }

func try() tries {
	return tries{rand.New(rand.NewSource(4))}
}

// one of some numbers.
func (r tries) one(l ...int) int {
	return l[r.Intn(len(l))]
}

// part makes a part, most times a right one.
func (r tries) part(places int) api.Part {
	p := api.Part{At: r.Intn(places), Drop: r.one(0, 0, 0, 1, 2, 3, 6, 12, 20), Take: r.one(1, 2, 3, 5, 6), Up: r.one(0, 0, 1, 2, 3, 6, 7, 12, 18)}
	if p.Up == 0 {
		p.Take = r.one(1, 2, 3, 6, 8, 20, 21)
	}
	if r.Intn(60) == 0 {
		p.At = r.one(-1, places, places+1, math.MaxInt, math.MinInt)
	}
	if r.Intn(80) == 0 {
		p.Drop, p.Take, p.Up = r.one(-1, 0, 20, 21), r.one(-1, 0, 1, 7, 21, 22), r.one(-1, 0, 1, 20, 21)
	}
	return p
}

// term makes a term, most times of right numbers.
func (r tries) term(places int) api.Term {
	var t api.Term
	for range r.one(0, 1, 1, 1, 2, 2, 3, 4) {
		t.Parts = append(t.Parts, r.part(places))
	}
	if r.Intn(4) > 0 {
		slices.SortFunc(t.Parts, func(a, b api.Part) int { return a.Up - b.Up })
		t.Parts = slices.CompactFunc(t.Parts, func(a, b api.Part) bool { return a.Up == b.Up })
	}
	t.Sum = r.one(0, 0, 1, 2, 7, 64, -1, -2, -5, top-70, top, -top, -0xc0)
	t.Take = 21
	if r.Intn(2) == 0 {
		o := r.part(1)
		t.Drop, t.Take, t.Up = o.Drop, o.Take, o.Up
		t.Base = r.one(0, 0, 1, 0x80, -1, -3, 200, top, -top)
	}
	if r.Intn(60) == 0 {
		t.Base = r.one(top+1, -top-1, math.MaxInt, math.MinInt)
	}
	if r.Intn(60) == 0 {
		t.Sum = r.one(top+1, -top-1, math.MaxInt, math.MinInt)
	}
	return t
}

// guard makes a list of a few numbers, now and then in an odd form, or with some beyond the symbols.
func (r tries) guard() []api.Span {
	switch r.Intn(40) {
	case 0:
		return nil
	case 1:
		return of(5, 4)
	case 2:
		return of(-2, 1)
	case 3:
		return of(top, top+1)
	case 4:
		return of(-1, -1)
	}
	var l []api.Span
	for range 1 + r.Intn(2) {
		lo := r.one(0, 1, 2, 60, 0x7f, 0x80, 0xbf, 0xc3, 0xfe, 0xff, 0xd7fe, top-2)
		l = append(l, api.Span{Lo: lo, Hi: min(lo+r.Intn(5)-1, top)})
	}
	return l
}

// guards makes a few of them.
func (r tries) guards(n int) [][]api.Span {
	var out [][]api.Span
	for range n {
		out = append(out, r.guard())
	}
	return out
}

// P4.1: each field at its edges, the others being right; of all sorts.
func TestRight(t *testing.T) {
	edges := []int{math.MinInt, -top - 1, -top, -1, 0, 1, 5, 6, 7, 19, 20, 21, 22, top, top + 1, math.MaxInt}
	var terms []api.Term
	for _, x := range edges {
		terms = append(terms, outer(x, 0, 21, 0, 0), outer(0, x, 21, 0, 0), outer(0, 0, x, 0, 0), outer(0, 0, 6, x, 0), outer(0, 0, 7, x, 0), outer(0, 0, 21, 0, x),
			inner(0, at(x, 0, 21, 0)), inner(0, at(0, x, 21, 0)), inner(0, at(0, 0, x, 0)), inner(0, at(0, 0, 6, x)), inner(0, at(0, 0, 7, x)), inner(0, at(1, 0, 21, x)),
			inner(0, at(0, 0, 6, 2), at(1, 0, 6, x)), inner(0, at(0, 0, 6, 0), at(1, 0, 6, 20), at(2, 0, 6, x)), outer(x, 3, 6, 2, 0, at(0, 0, 21, 0)))
	}
	terms = append(terms, two(), inner(0, at(0, 0, 6, 0), at(0, 0, 6, 1), at(0, 0, 6, 2), at(0, 0, 6, 3)),
		inner(0, at(0, 0, 6, 0), at(0, 0, 6, 1), at(0, 0, 6, 2), at(0, 0, 6, 3), at(0, 0, 6, 4)),
		inner(0, at(0, 0, 6, 1), at(0, 0, 6, 1)), inner(0, at(0, 0, 6, 1), at(0, 0, 6, 0)), inner(0, at(0, 0, 21, 0), at(0, 0, 6, 1)), api.Term{})
	for _, x := range terms {
		for _, in := range sorts {
			for _, out := range sorts {
				for _, n := range []int{-1, 0, 1, 2, 3, 4, 5, 21, math.MaxInt} {
					if got, want := term.Right(x, in, out, n), right(x, in, out, n); got != want {
						t.Fatalf("Right(%v, %v, %v, %d): %v", x, in, out, n, got)
					}
				}
			}
		}
	}
}

// P4.1: many terms, and windows.
func TestValue(t *testing.T) {
	r := try()
	has := 0
	for range 200000 {
		n := r.Intn(4) + 1
		x := r.term(n)
		w := make([]rune, n+r.one(0, 0, 0, 0, 0, 0, 1, -1))
		for i := range w {
			w[i] = rune(r.one(0, 1, 2, 0x3f, 0x7f, 0x80, 0xc3, 0xff, 0x1234, 0xd800, top))
		}
		if r.Intn(20) == 0 && len(w) > 0 {
			w[r.Intn(len(w))] = rune(r.one(-1, top+1, 1<<21-1, 1<<21, math.MinInt32, math.MaxInt32))
		}
		got, ok := term.Value(x, w)
		want, yes := value(x, w)
		if got != want || ok != yes {
			t.Fatalf("Value(%v, %v): %d, %v, not %d, %v", x, w, got, ok, want, yes)
		}
		if ok {
			has++
		}
	}
	if has < 50000 {
		t.Fatalf("of few windows there is a value: %d", has)
	}
}

// P4.1: the chapter's example, the greatest and the least, and sums that wrap round.
func TestValueEdges(t *testing.T) {
	five := inner(0, at(0, 0, 1, 0), at(0, 0, 1, 0), at(0, 0, 1, 5), at(0, 0, 1, 1), at(1, 0, 1, 0))
	for _, c := range []struct {
		t    api.Term
		w    []rune
		v    int
		have bool
	}{
		{two(), []rune{0xc3, 0xbc}, 0xfc, true},
		{two(), []rune{0xc3}, 0, false},
		{two(), []rune{0xc3, 0xbc, top}, 0xfc, true},
		{two(), []rune{0xc3, 0xbc, top + 1}, 0, false},
		{two(), []rune{0xc3, 0xbc, -1}, 0, false},
		{five, []rune{1, 1}, 1 + 1 + 32 + 2 + 1, true},
		{inner(7), nil, 7, true},
		{inner(top), nil, top, true},
		{inner(top + 1), nil, 0, false},
		{inner(-1), nil, 0, false},
		{inner(-1, at(0, 0, 21, 0)), []rune{1}, 0, true},
		{inner(-1, at(0, 0, 21, 0)), []rune{0}, 0, false},
		{inner(1, at(0, 0, 21, 0)), []rune{top}, 0, false},
		{outer(math.MaxInt, 0, 21, 0, 5), nil, math.MinInt + 4, true},
		{outer(math.MinInt, 0, 21, 0, 5), nil, math.MinInt + 5, true},
		{inner(math.MinInt, at(0, 0, 21, 0)), []rune{5}, 0, false},
		{inner(math.MaxInt, at(0, 0, 21, 0)), []rune{5}, 0, false},
		{outer(0x80, 6, 6, 0, 0, at(0, 0, 21, 0)), []rune{0x20ac}, 0x82, true},
		{outer(0, 0, 6, 20, 63), nil, 63 << 20, true},
		{outer(0, 0, 7, 1, 63), nil, 0, false},
		{api.Term{}, nil, 0, false},
	} {
		if v, ok := term.Value(c.t, c.w); v != c.v || ok != c.have {
			t.Errorf("Value(%v, %v): %d, %v", c.t, c.w, v, ok)
		}
	}
}

// P4.1: many terms, and guards of few windows.
func TestImage(t *testing.T) {
	r := try()
	has := 0
	for range 60000 {
		n := r.one(0, 1, 1, 2, 2, 3, 4, 5)
		x, guards := r.term(max(n, 1)), r.guards(n)
		got, ok := term.Image(x, guards)
		want, yes := image(x, guards)
		if !slices.Equal(got, want) || ok != yes {
			t.Fatalf("Image(%v, %v): %v, %v, not %v, %v", x, guards, got, ok, want, yes)
		}
		if ok && len(got) > 0 && len(x.Parts) > 1 {
			has++
		}
	}
	if has < 3000 {
		t.Fatalf("few terms of some parts have an image: %d", has)
	}
}

// P4.1: the edges that the chapter names, and guards of many windows.
func TestImageEdges(t *testing.T) {
	bytes, symbols, tail := of(0, 255), of(0, top), of(0x80, 0xbf)
	four := inner(0, at(3, 0, 6, 0), at(2, 0, 6, 6), at(1, 0, 6, 12), at(0, 0, 3, 18))
	for i, c := range []struct {
		t      api.Term
		guards [][]api.Span
		want   []api.Span
		ok     bool
	}{
		{two(), all(of(0xc2, 0xdf), tail), of(0x80, 0x7ff), true},
		{four, all(of(0xf0, 0xf3), tail, tail, tail), of(0, 1<<20-1), true},
		{four, all(of(0xf4, 0xf4), of(0x80, 0x8f), tail, tail), of(0x100000, top), true},
		{four, all(of(0xf0, 0xf4), of(0x80, 0x90), tail, tail), nil, false}, // with F4 90, beyond the symbols
		{four, all(of(0xf0, 0xf4), nil, tail, tail), nil, true},
		{four, all(of(0xf0, 0xf4), of(3, 2), tail, of(-9, 2)), nil, true},
		{four, all(of(0xf0, 0xf0), tail, tail, tail, nil), nil, false},
		{inner(5), all(bytes, bytes, bytes, bytes, bytes), nil, false},
		{inner(5), nil, of(5, 5), true},
		{inner(-1), nil, nil, false},
		{inner(-1), all(nil), nil, true},
		{inner(top + 1), all(nil), nil, false},
		{outer(top+1, 0, 21, 0, 0), all(nil), nil, false},
		{outer(0, 0, 22, 0, 0), all(nil), nil, false},
		{inner(0, at(1, 0, 21, 0)), all(nil), nil, false},
		{inner(0, at(0, 0, 21, 1)), all(nil), nil, false},
		{inner(0, at(0, 0, 1, 1), at(0, 0, 1, 1)), all(nil), nil, false},
		{inner(5), all(of(-1, 3)), nil, false}, // where nothing is made of the symbol, too
		{inner(5), all(of(top, top+1)), nil, false},
		{inner(5), all(symbols, symbols, symbols, symbols), of(5, 5), true},
		{term.Copy(1, 0), all(symbols, symbols), symbols, true},
		{term.Copy(0, 1), all(of(0, top-1)), of(1, top), true},
		{term.Copy(0, 1), all(symbols), nil, false},
		{term.Copy(0, -1), all(symbols), nil, false},
		{term.Copy(0, -top), all(of(top, top)), of(0, 0), true},
		{outer(-top, 0, 21, 0, 0, part.Whole(0)), all(symbols), of(-top, 0), true},
		{outer(0x80, 0, 6, 0, 0, part.Whole(0)), all(symbols), of(0x80, 0xbf), true},
		{outer(0xf0, 18, 3, 0, 0, part.Whole(0)), all(of(0x10000, top)), of(0xf0, 0xf4), true},
		{outer(0, 0, 1, 20, 0, part.Whole(0)), all(symbols), of(0, 0, 1<<20, 1<<20), true},
		{inner(0, at(0, 0, 8, 0), at(1, 0, 6, 8), at(2, 0, 6, 14)), all(bytes, bytes, bytes, bytes), of(0, 1<<20-1), true},
		{inner(0, at(0, 0, 6, 1), at(0, 6, 6, 7), at(0, 12, 6, 13)), all(of(0, 1<<18-1)), set(steps(0, 2, 1<<19-1)), true},
		{inner(0, at(0, 0, 21, 0), at(0, 0, 2, 2)), all(of(0, 9)), set([]int{0, 5, 10, 15, 4, 9, 14, 19, 8, 13}), true},
		{inner(-top, at(0, 0, 21, 0), at(1, 0, 6, 14), at(2, 0, 1, 20)), all(of(top, top), bytes, of(0, 0)), set(steps(0, 1<<14, 63<<14)), true},
	} {
		got, ok := term.Image(c.t, c.guards)
		if !slices.Equal(got, c.want) || ok != c.ok {
			t.Errorf("%d: Image(%v, %v): %d spans, %v, not %d, %v", i, c.t, c.guards, len(got), ok, len(c.want), c.ok)
		}
	}
}

// P4.1: many pairs of symbols that come to many values.
func TestImageOfMany(t *testing.T) {
	var even, wide []api.Span
	for x := range 600 {
		even = append(even, api.Span{Lo: 1500 - 2*x, Hi: 1500 - 2*x})
		wide = append(wide, api.Span{Lo: 1000*x + 5, Hi: 1000*x + 7 + x%11})
	}
	x := inner(3, at(1, 0, 21, 0), at(0, 0, 6, 1), at(2, 5, 6, 2))
	guards := all(even, wide, even)
	got, ok := term.Image(x, guards)
	want, yes := imageByPlaces(x, guards)
	if !ok || !yes || !slices.Equal(got, want) {
		t.Fatalf("Image: %d spans, %v, not %d, %v", len(got), ok, len(want), yes)
	}
}

// imageByPlaces is the image of a term of which each part has a place of its own and the outer part takes all, place by place.
func imageByPlaces(t api.Term, guards [][]api.Span) ([]api.Span, bool) {
	sums := map[int]int{t.Sum: 1}
	for _, p := range t.Parts {
		values := map[int]int{}
		for x := range span.Each(guards[p.At]) {
			values[bits(p, x)] = 1
		}
		more := map[int]int{}
		for a := range sums {
			for b := range values {
				more[a+b] = 1
			}
		}
		sums = more
	}
	var l []int
	for x := range sums {
		if !between(0, x, top) {
			return nil, false
		}
		l = append(l, x)
	}
	return set(l), true
}

// P4.1: many terms, and guards of few windows, of all sorts.
func TestFits(t *testing.T) {
	r := try()
	have := map[api.Sort]int{}
	for range 60000 {
		n := r.one(0, 1, 1, 2, 2, 3, 4, 5)
		x, guards := r.term(max(n, 1)), r.guards(n)
		if r.Intn(3) == 0 {
			x = r.pick(term.Const(rune(r.one(-1, 0, 0xff, 0x100, 0xd7ff, 0xd800, 0xdfff, top, top+1))), term.Copy(0, r.one(0, 1, -1)), term.Copy(n-1, r.one(0, 2)))
		}
		in, out := sorts[r.one(0, 0, 0, 1, 1, 1, 2, 3, 4)], sorts[r.one(0, 0, 0, 1, 1, 1, 2, 3, 4)]
		got := term.Fits(x, in, out, guards)
		if want := fits(x, in, out, guards); got != want {
			t.Fatalf("Fits(%v, %v, %v, %v): %v", x, in, out, guards, got)
		}
		if got {
			have[in*10+out]++
		}
	}
	if have[11] < 500 || have[12] < 500 || have[21] < 500 || have[22] < 500 {
		t.Fatalf("few terms fit: %v", have)
	}
}

// pick is one of some terms.
func (r tries) pick(l ...api.Term) api.Term {
	return l[r.Intn(len(l))]
}

// P4.1: what fits just so.
func TestFitsEdges(t *testing.T) {
	scalars := of(0, 0xd7ff, 0xe000, top)
	for i, c := range []struct {
		t       api.Term
		in, out api.Sort
		guards  [][]api.Span
		want    bool
	}{
		{term.Copy(0, 1), api.Bytes, api.Bytes, all(of(0, 254)), true},
		{term.Copy(0, 1), api.Bytes, api.Bytes, all(of(0, 255)), false},
		{term.Copy(0, 0), api.Scalars, api.Scalars, all(scalars), true},
		{term.Copy(0, 0), api.Scalars, api.Scalars, all(of(0, top)), false},
		{term.Copy(0, 0), api.Scalars, api.Scalars, all(of(-9, 5, top, top+9)), true}, // what lies beyond the symbols counts for nothing
		{term.Copy(0, 0), api.Scalars, api.Scalars, all(of(-9, -5)), true},
		{term.Copy(0, 0), api.Scalars, api.Scalars, all(of(-9, 5), nil), true},
		{term.Const('a'), api.Scalars, api.Bytes, all(of(0, top), of(0, top), of(0, top), of(0, top)), true},
		{term.Const('a'), api.Scalars, api.Bytes, all(nil, nil, nil, nil, nil), false},
		{term.Const(0xd800), api.Bytes, api.Scalars, nil, false},
		{term.Const(0xd800), api.Bytes, api.Scalars, all(nil), true},
		{term.Const(0x100), api.Scalars, api.Bytes, nil, false},
		{term.Const('a'), 0, api.Bytes, nil, false},
		{term.Const('a'), api.Bytes, 3, nil, false},
		{outer(0x80, 0, 6, 0, 0, part.Whole(0)), api.Scalars, api.Bytes, all(of(0, top)), true},
		{outer(0xc0, 6, 6, 0, 0, part.Whole(0)), api.Scalars, api.Bytes, all(of(0, top)), true},
		{outer(0xc1, 6, 6, 0, 0, part.Whole(0)), api.Scalars, api.Bytes, all(of(0, top)), false},
		{outer(0, 6, 6, 0, 0, part.Whole(0)), api.Scalars, api.Scalars, all(of(0, top)), false},
		{two(), api.Bytes, api.Scalars, all(of(0xc2, 0xdf), of(0x80, 0xbf)), true},
		{two(), api.Scalars, api.Scalars, all(of(0xc2, 0xdf), of(0x80, 0xbf)), false},
		{inner(0, at(0, 0, 20, 0)), api.Scalars, api.Scalars, all(of(0, 9)), false},
	} {
		if got := term.Fits(c.t, c.in, c.out, c.guards); got != c.want {
			t.Errorf("%d: Fits(%v, %v, %v, %v): %v", i, c.t, c.in, c.out, c.guards, got)
		}
	}
}

// P4.2
func TestConstCopy(t *testing.T) {
	for _, x := range []rune{0, 'a', top, -1, math.MinInt32, math.MaxInt32} {
		if got := term.Const(x); !same(got, api.Term{Sum: int(x), Take: 21}) {
			t.Errorf("Const(%d): %v", x, got)
		}
	}
	for _, place := range []int{0, 1, 3, -1, math.MinInt, math.MaxInt} {
		for _, by := range []int{0, 1, -1, top, math.MinInt, math.MaxInt} {
			if got := term.Copy(place, by); !same(got, api.Term{Sum: by, Take: 21, Parts: []api.Part{{At: place, Take: 21}}}) {
				t.Errorf("Copy(%d, %d): %v", place, by, got)
			}
		}
	}
}

// put is the chapter's words.
func put(u, t api.Term) (api.Term, bool) {
	takesAll := func(p api.Part) bool { return p.Drop == 0 && p.Take == 21 && p.Up == 0 }
	add := func(a, b int) bool { return between(-top, a, top) && between(-top, b, top) && between(-top, a+b, top) }
	if len(u.Parts) == 0 {
		return u, true
	}
	if len(u.Parts) != 1 || !takesAll(u.Parts[0]) || u.Parts[0].At != 0 {
		return api.Term{}, false
	}
	if t.Base == 0 && takesAll(outerOf(t)) {
		if !add(u.Sum, t.Sum) {
			return api.Term{}, false
		}
		return outer(u.Base, u.Drop, u.Take, u.Up, u.Sum+t.Sum, t.Parts...), true
	}
	if u.Base == 0 && takesAll(outerOf(u)) && add(t.Base, u.Sum) {
		return outer(t.Base+u.Sum, t.Drop, t.Take, t.Up, t.Sum, t.Parts...), true
	}
	return api.Term{}, false
}

// P4.3: all pairs of these terms, of which many just may or may not be put together.
func TestPut(t *testing.T) {
	ends := []int{math.MinInt, -top - 1, -top, -1, 0, 1, top, top + 1, math.MaxInt}
	terms := []api.Term{two(), {}, {Parts: []api.Part{}}, inner(0, at(0, 0, 6, 0)), inner(1, at(0, 0, 21, 0), at(0, 0, 6, 1)), inner(1, at(0, 1, 21, 0)), inner(1, at(0, 0, 21, 1)), inner(1, at(0, 0, 20, 0)), term.Copy(1, 1), term.Copy(-1, 1), outer(0, 1, 21, 0, 5, part.Whole(0)), outer(0, 0, 21, 1, 5, part.Whole(0))}
	for _, x := range ends {
		terms = append(terms, inner(x), term.Copy(0, x), term.Copy(2, x), outer(x, 0, 21, 0, 3, part.Whole(0)), outer(0x80, 6, 6, 0, x, part.Whole(0)), outer(x, 6, 6, 2, 9, part.Whole(1)), outer(1, 0, 21, 0, x), inner(x, at(3, 0, 6, 0), at(4, 0, 2, 3)))
	}
	for _, u := range terms {
		for _, v := range terms {
			got, ok := term.Put(u, v)
			want, yes := put(u, v)
			if !same(got, want) || ok != yes {
				t.Fatalf("Put(%v, %v): %v, %v, not %v, %v", u, v, got, ok, want, yes)
			}
		}
	}
	if u, ok := term.Put(term.Copy(0, 1), term.Const('a')); !ok || !same(u, term.Const('b')) {
		t.Errorf("Put: %v, %v", u, ok)
	}
}

// P4.4, by the words; many terms, words and places.
func TestBind(t *testing.T) {
	r := try()
	for range 100000 {
		x := r.term(r.Intn(4) + 1)
		w := make([]rune, r.Intn(5))
		for i := range w {
			w[i] = rune(r.one(0, 1, 0x41, 0xc3, 0xff, top, top+1, 1<<21-1, 1<<21, -1, math.MinInt32, math.MaxInt32))
		}
		place := r.one(-1, 0, 1, 2, 3, 4, math.MaxInt)
		want := x
		want.Parts = nil
		for _, p := range x.Parts {
			switch {
			case p.At == place:
				p.At = 0
				want.Parts = append(want.Parts, p)
			case between(0, p.At, len(w)-1) && bitsRight(p) && between(0, int(w[p.At]), 1<<21-1):
				want.Sum += bits(p, int(w[p.At]))
			default:
				want.Parts = append(want.Parts, p)
			}
		}
		if got := term.Bind(x, w, place); !same(got, want) {
			t.Fatalf("Bind(%v, %v, %d): %v, not %v", x, w, place, got, want)
		}
	}
	if b := term.Bind(two(), []rune{0xc3, 0}, 1); !same(b, inner(0xc0, at(0, 0, 6, 0))) {
		t.Errorf("Bind: %v", b)
	}
	if b := term.Bind(inner(math.MaxInt, at(0, 0, 1, 0)), []rune{1}, 1); !same(b, inner(math.MinInt)) {
		t.Errorf("Bind: %v", b)
	}
}

// among is the numbers that sets of symbols are tried with.
func among() []api.Span {
	return of(-3, 150, 0xd7f0, 0xd810, top-70, top+3)
}

// symbolSets is sets of these, in any form.
func symbolSets() [][]api.Span {
	return [][]api.Span{nil, of(-3, 150), of(9, 2), of(0, 0), of(5, 70), of(60, 70, 0xd7f0, 0xd810, 0, 3), of(top-70, top+3), of(-3, -1, top+1, top+3), of(0, 2, 63, 64, 64, 65, 127, 130, top, top)}
}

// goals is sets that values are looked for in.
func goals() [][]api.Span {
	return [][]api.Span{of(0, 20), of(70, 75, 0, 3, 9, 2), of(-3, -1, 1, 1, 3, 3), of(-api.MaxNum-9, api.MaxNum+9), of(0x80, 0xbf, 12, 12, 64, 64, 256, 300), of(top-9, top+9), nil}
}

// single makes a term of windows of one symbol; now and then one with many parts, in any order.
func (r tries) single() api.Term {
	t := r.term(1)
	if r.Intn(10) == 0 {
		for range r.Intn(5) {
			t.Parts = append(t.Parts, r.part(1))
		}
	}
	if r.Intn(4) == 0 {
		t.Sum = r.one(-70, -64, -6, -150, -0xd800, top-140, top-64, -9<<20)
	}
	return t
}

// P4.5: many terms, held against their values symbol by symbol.
func TestPre(t *testing.T) {
	r := try()
	some := 0
	for i := range 12000 {
		x, s, g := r.single(), symbolSets()[i%len(symbolSets())], goals()[i/len(symbolSets())%len(goals())]
		var l []int
		for y := range span.Each(span.Meet(s, among())) {
			if v, ok := value(x, []rune{rune(y)}); ok && span.Has(g, v) {
				l = append(l, y)
			}
		}
		got := term.Pre(x, s, g)
		if !slices.Equal(got, set(l)) {
			t.Fatalf("Pre(%v, %v, %v): %v, not %v", x, s, g, got, set(l))
		}
		if len(got) > 1 {
			some++
		}
	}
	if some < 400 {
		t.Fatalf("few terms have some of a set: %d", some)
	}
}

// P4.5: many pairs of terms, held against their values symbol by symbol.
func TestEqual(t *testing.T) {
	r := try()
	some := 0
	for i := range 30000 {
		a, b, s := r.single(), r.single(), symbolSets()[i%len(symbolSets())]
		if i%3 == 0 {
			b = a
			b.Sum += r.one(0, 0, 1, 64, -1)
		}
		if i%5 == 0 {
			b.Base = a.Base + r.one(0, 0, 1)
		}
		var l []int
		for y := range span.Each(span.Meet(s, among())) {
			v, ok := value(a, []rune{rune(y)})
			if w, yes := value(b, []rune{rune(y)}); ok && yes && v == w {
				l = append(l, y)
			}
		}
		got := term.Equal(a, b, s)
		if !slices.Equal(got, set(l)) {
			t.Fatalf("Equal(%v, %v, %v): %v, not %v", a, b, s, got, set(l))
		}
		if len(got) > 1 {
			some++
		}
	}
	if some < 500 {
		t.Fatalf("few terms are the same of some of a set: %d", some)
	}
}

// P4.5: terms of all symbols, held against their values symbol by symbol.
func TestPreEqualOfAll(t *testing.T) {
	numbers := of(math.MinInt, math.MaxInt)
	goal := of(0x80, 0x8f, 0x95, 0x95, 0xa0, 0xbf)
	terms := []api.Term{
		term.Copy(0, 0), term.Copy(0, -0x80), outer(0x80, 0, 6, 0, 0, part.Whole(0)), outer(0x80, 6, 6, 0, 0, part.Whole(0)), outer(0x80, 6, 6, 0, 5, part.Whole(0)),
		inner(0x80, at(0, 12, 6, 0)), inner(-0x40, at(0, 0, 3, 0), at(0, 2, 4, 4), at(0, 5, 6, 5)), term.Const(0x95), outer(3, 1, 3, 4, -0xd800, part.Whole(0)),
	}
	for i, a := range terms {
		var l, m []int
		b := terms[(i*2+3)%len(terms)]
		for x := range rune(top + 1) {
			v, ok := value(a, []rune{x})
			w, yes := value(b, []rune{x})
			if ok && span.Has(goal, v) {
				l = append(l, int(x))
			}
			if ok && yes && v == w {
				m = append(m, int(x))
			}
		}
		if got := term.Pre(a, numbers, goal); !slices.Equal(got, set(l)) {
			t.Errorf("Pre(%v): %d spans, not %d", a, len(got), len(set(l)))
		}
		if got := term.Equal(a, b, numbers); !slices.Equal(got, set(m)) {
			t.Errorf("Equal(%v, %v): %d spans, not %d", a, b, len(got), len(set(m)))
		}
	}
}

// P4.5: values that there are none of, and sums that wrap round.
func TestPreEqualEdges(t *testing.T) {
	numbers, symbols := of(math.MinInt, math.MaxInt), of(0, top)
	for _, c := range []struct {
		a, b api.Term
		want []api.Span
	}{
		{term.Const(5), term.Const(5), symbols},
		{term.Const(5), term.Const(6), nil},
		{term.Const(-1), term.Const(-1), nil},
		{term.Const(top + 1), term.Const(top + 1), nil},
		{term.Copy(0, 1), term.Copy(0, 1), of(0, top-1)},
		{term.Copy(0, -1), term.Copy(0, -1), of(1, top)},
		{term.Copy(0, 1), term.Copy(0, 0), nil},
		{term.Copy(0, 0), term.Const('a'), of('a', 'a')},
		{term.Const('a'), term.Copy(0, 0), of('a', 'a')},
		{term.Copy(1, 0), term.Copy(1, 0), nil},
		{term.Copy(-1, 0), term.Copy(-1, 0), nil},
		{inner(0, at(0, 0, 22, 0)), inner(0, at(0, 0, 22, 0)), nil},
		{api.Term{}, api.Term{}, nil},
		{outer(math.MaxInt, 0, 21, 0, 0, part.Whole(0)), outer(math.MinInt, 0, 21, 0, -1, part.Whole(0)), of(1, top)},
		{outer(math.MaxInt, 0, 21, 0, 0, part.Whole(0)), outer(math.MinInt, 0, 21, 0, 0, part.Whole(0)), nil},
		{outer(math.MinInt, 0, 21, 0, 0, part.Whole(0)), outer(0, 0, 21, 0, 0, at(0, 0, 20, 0)), nil},
		{outer(math.MinInt, 0, 21, 0, 0), outer(0, 0, 21, 0, 0, part.Whole(0)), nil},
		{term.Copy(0, math.MinInt), term.Copy(0, math.MaxInt), nil},
		{outer(0, 0, 20, 0, 0, part.Whole(0)), term.Copy(0, 0), of(0, 1<<20-1)},
		{outer(0, 1, 20, 0, 0, part.Whole(0)), term.Copy(0, -1), of(1, 2)},
		{inner(0, at(0, 0, 6, 1)), inner(0, at(0, 0, 6, 0), at(0, 0, 6, 0)), symbols},
	} {
		if got := term.Equal(c.a, c.b, numbers); !slices.Equal(got, c.want) {
			t.Errorf("Equal(%v, %v): %v", c.a, c.b, got)
		}
	}
	for _, c := range []struct {
		t       api.Term
		g, want []api.Span
	}{
		{term.Copy(0, 0), of(-9, 3, top, top+5), of(0, 3, top, top)},
		{term.Copy(0, 5), of(0, 4), nil},
		{term.Copy(0, 5), of(0, 5), of(0, 0)},
		{term.Copy(0, -5), of(-9, 5), of(5, 10)},
		{term.Const(5), of(5, 5), symbols},
		{term.Const(5), of(6, 4), nil},
		{outer(0, 0, 6, 20, 0, part.Whole(0)), of(5<<20, 5<<20, 1<<19, 1<<19), set(steps(5, 64, top))},
		{outer(api.MaxNum, 0, 21, 0, 0, part.Whole(0)), numbers, of(0, 0)},
		{outer(-api.MaxNum-7, 0, 21, 0, 0, part.Whole(0)), numbers, of(7, top)},
		{outer(math.MaxInt, 0, 21, 0, 0, part.Whole(0)), numbers, nil},
		{outer(math.MinInt, 0, 21, 0, 0, part.Whole(0)), numbers, nil},
		{outer(0, 0, 22, 0, 0, part.Whole(0)), numbers, nil},
		{term.Copy(1, 0), numbers, nil},
	} {
		if got := term.Pre(c.t, numbers, c.g); !slices.Equal(got, c.want) {
			t.Errorf("Pre(%v, all, %v): %d spans, not %d", c.t, c.g, len(got), len(c.want))
		}
	}
}

// P4.6
func TestLaws(t *testing.T) {
	r := try()
	put, bound := 0, 0
	for range 200000 {
		n := r.Intn(4) + 1
		x, w := r.term(n), make([]rune, n)
		for i := range w {
			w[i] = rune(r.one(0, 1, 2, 0x3f, 0x7f, 0xc3, 0xff, 0x1234, top))
		}
		v, ok := term.Value(x, w)
		place := r.Intn(n)
		b, have := term.Value(term.Bind(x, w, place), w[place:place+1])
		if b != v || have != ok {
			t.Fatalf("%v of %v: %d, %v; bound to %d: %d, %v", x, w, v, ok, place, b, have)
		}
		u := r.pick(term.Copy(0, r.one(0, 1, -1, 64)), term.Const('x'), outer(0x80, r.one(0, 6), 6, 0, 0, part.Whole(0)), r.term(1))
		p, may := term.Put(u, x)
		if !ok || !between(0, v, top) || !may {
			continue
		}
		got, yes := term.Value(p, w)
		want, has := term.Value(u, []rune{rune(v)})
		if has && (got != want || !yes) {
			t.Fatalf("%v of what %v makes of %v: %d; put together: %d, %v", u, x, w, want, got, yes)
		}
		if has && len(u.Parts) > 0 {
			put++
		}
		if len(x.Parts) > 1 {
			bound++
		}
	}
	if put < 5000 || bound < 5000 {
		t.Fatalf("few terms were put together, or bound: %d, %d", put, bound)
	}
}

// roomyParts is parts with spare room that is written to.
func roomyParts(l ...api.Part) []api.Part {
	return append(slices.Clone(l), at(77, 1, 2, 3), at(78, 1, 2, 3))[: len(l) : len(l)+2]
}

// roomy is a list with spare room that is written to.
func roomy(l []api.Span) []api.Span {
	return append(slices.Clone(l), of(1000, 2000, 1001, 2001)...)[: len(l) : len(l)+2]
}

// Rule 4: what is handed in isn't changed, its spare room neither; what is answered is new memory.
func TestMemory(t *testing.T) {
	makeParts := func() [][]api.Part {
		return [][]api.Part{roomyParts(), roomyParts(part.Whole(0)), roomyParts(at(0, 0, 6, 0), at(1, 0, 6, 6)), roomyParts(at(0, 1, 6, 0), at(0, 0, 2, 6))}
	}
	lists := [][]api.Span{of(0, 9), of(20, 30, 0, 9, 5, 6), of(0, 9, 20, 30)}
	for i, parts := range makeParts() {
		fresh := makeParts()[i]
		for _, l := range lists {
			s, g, w := roomy(l), roomy(l), []rune{7, 8, 9}[:2]
			x := api.Term{Take: 21, Sum: 1, Parts: parts}
			for _, call := range []func() ([]api.Span, []api.Part){
				func() ([]api.Span, []api.Part) { l, _ := term.Image(x, all(s, g)); return l, nil },
				func() ([]api.Span, []api.Part) { return term.Pre(x, s, g), nil },
				func() ([]api.Span, []api.Part) { return term.Equal(x, x, s), nil },
				func() ([]api.Span, []api.Part) { u, _ := term.Put(x, term.Const('a')); return nil, u.Parts },
				func() ([]api.Span, []api.Part) { u, _ := term.Put(term.Copy(0, 1), x); return nil, u.Parts },
				func() ([]api.Span, []api.Part) { return nil, term.Bind(x, w, 0).Parts },
				func() ([]api.Span, []api.Part) { return nil, term.Bind(x, nil, 5).Parts },
				func() ([]api.Span, []api.Part) {
					term.Right(x, api.Bytes, api.Bytes, 2)
					term.Value(x, w)
					term.Fits(x, api.Bytes, api.Bytes, all(s, g))
					return nil, nil
				},
			} {
				spans, ps := call()
				keptSpans, keptParts := slices.Clone(spans), slices.Clone(ps)
				for i := range spans {
					spans[i] = api.Span{Lo: -77, Hi: -77}
				}
				for i := range ps {
					ps[i] = at(-77, 0, 0, 0)
				}
				_, _ = append(spans, api.Span{Lo: -78}), append(ps, at(-78, 0, 0, 0))
				if !slices.Equal(s[:cap(s)], roomy(l)[:cap(s)]) || !slices.Equal(g[:cap(g)], roomy(l)[:cap(g)]) || !slices.Equal(parts[:cap(parts)], fresh[:cap(parts)]) || !slices.Equal(w[:3], []rune{7, 8, 9}) {
					t.Fatalf("%v of %v: what was handed in is changed", fresh, l)
				}
				if againSpans, againParts := call(); !slices.Equal(againSpans, keptSpans) || !slices.Equal(againParts, keptParts) {
					t.Fatalf("%v of %v: another answer, once more", fresh, l)
				}
			}
		}
	}
}
