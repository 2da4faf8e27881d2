package span_test

import (
	"fmt"
	"math"
	"slices"
	"testing"

	"umlaut/api"
	"umlaut/span"
)

// width is how many numbers the bounds of the lists that are gone through lie among, from a base on.
const width = 4

// bases: in the midst of the numbers, and where some bounds lie beyond them.
var bases = []int{-1, -api.MaxNum - 2, api.MaxNum - 1}

// of writes a list by its bounds.
func of(bounds ...int) []api.Span {
	var l []api.Span
	for i := 0; i < len(bounds); i += 2 {
		l = append(l, api.Span{Lo: bounds[i], Hi: bounds[i+1]})
	}
	return l
}

// has is the chapter's word: a number, and in one of the spans.
func has(l []api.Span, x int) bool {
	return -api.MaxNum <= x && x <= api.MaxNum && slices.ContainsFunc(l, func(s api.Span) bool { return s.Lo <= x && x <= s.Hi })
}

// numbers is all of a set whose bounds lie near a base.
func numbers(l []api.Span, base int) []int {
	var out []int
	for x := base - 2; x <= base+width+2; x++ {
		if has(l, x) {
			out = append(out, x)
		}
	}
	return out
}

// plainOf is the plain list of numbers that rise.
func plainOf(l []int) []api.Span {
	var out []api.Span
	for i, x := range l {
		if i > 0 && l[i-1] == x-1 {
			out[len(out)-1].Hi = x
		} else {
			out = append(out, api.Span{Lo: x, Hi: x})
		}
	}
	return out
}

// lists is all lists of at most so many spans, with bounds from the base on; empty spans are among them.
func lists(base, most int) [][]api.Span {
	out := [][]api.Span{nil}
	for from := 0; most > 0; most-- {
		to := len(out)
		for ; from < to; from++ {
			for k := range width * width {
				out = append(out, append(slices.Clone(out[from]), api.Span{Lo: base + k/width, Hi: base + k%width}))
			}
		}
	}
	return out
}

// subsets is the plain lists of all sets of the numbers from lo to lo + n - 1.
func subsets(lo, n int) [][]api.Span {
	var out [][]api.Span
	for bits := range 1 << n {
		var l []int
		for i := range n {
			if bits>>i&1 == 1 {
				l = append(l, lo+i)
			}
		}
		out = append(out, plainOf(l))
	}
	return out
}

func want(t *testing.T, what string, got, wanted any) {
	t.Helper()
	if fmt.Sprint(got) != fmt.Sprint(wanted) {
		t.Fatalf("%s: %v, not %v", what, got, wanted)
	}
}

func wantSpans(t *testing.T, got, wanted []api.Span, what string, from ...any) {
	t.Helper()
	if !slices.Equal(got, wanted) {
		t.Fatalf("%s%v: %v, not %v", what, from, got, wanted)
	}
}

// P1.1
func TestCheck(t *testing.T) {
	for _, l := range [][]api.Span{
		nil, {}, of(0, 0), of(-3, 9), of(1, 2, 4, 4), of(1, 2, 4, 5, 7, 9),
		of(-api.MaxNum, api.MaxNum), of(-api.MaxNum, -api.MaxNum, api.MaxNum, api.MaxNum),
	} {
		if !span.Check(l) {
			t.Errorf("Check(%v): false", l)
		}
	}
	for _, l := range [][]api.Span{
		of(1, 0), of(0, 1, 3, 2), of(3, 2, 5, 6), of(1, 2, 3, 4), of(1, 2, 2, 4), of(1, 2, 1, 2), of(4, 5, 1, 2), of(0, 9, 3, 4),
		of(-api.MaxNum-1, 0), of(0, api.MaxNum+1), of(api.MaxNum+1, api.MaxNum+1), of(-api.MaxNum-1, -api.MaxNum-1),
		of(math.MinInt, math.MaxInt), of(0, math.MaxInt, math.MinInt, 0), of(math.MaxInt, math.MinInt), of(0, 1, math.MinInt, math.MaxInt),
	} {
		if span.Check(l) {
			t.Errorf("Check(%v): true", l)
		}
	}
}

// P1.1, P1.2: of all small lists, by the words.
func TestOfOneList(t *testing.T) {
	for _, base := range bases {
		for _, l := range lists(base, 3) {
			nums := numbers(l, base)
			plain := plainOf(nums)
			wantSpans(t, span.Norm(l), plain, "Norm", l)
			if got := span.Check(l); got != slices.Equal(l, plain) {
				t.Fatalf("Check(%v): %v", l, got)
			}
			if got := span.Count(l); got != len(nums) {
				t.Fatalf("Count(%v): %d, not %d", l, got, len(nums))
			}
			if got := slices.Collect(span.Each(l)); !slices.Equal(got, nums) {
				t.Fatalf("Each(%v): %v, not %v", l, got, nums)
			}
			for x := base - 2; x <= base+width+2; x++ {
				if got := span.Has(l, x); got != has(l, x) {
					t.Fatalf("Has(%v, %d): %v", l, x, got)
				}
			}
			checkPlaces(t, l, nums)
		}
	}
}

// checkPlaces holds First, Last and At against all numbers of a set.
func checkPlaces(t *testing.T, l []api.Span, nums []int) {
	t.Helper()
	at := func(i int) (int, bool) {
		if i < 0 || i >= len(nums) {
			return 0, false
		}
		return nums[i], true
	}
	for i := -2; i <= len(nums)+1; i++ {
		x, ok := span.At(l, i)
		if y, yes := at(i); x != y || ok != yes {
			t.Fatalf("At(%v, %d): %d, %v", l, i, x, ok)
		}
	}
	x, ok := span.First(l)
	if y, yes := at(0); x != y || ok != yes {
		t.Fatalf("First(%v): %d, %v", l, x, ok)
	}
	x, ok = span.Last(l)
	if y, yes := at(len(nums) - 1); x != y || ok != yes {
		t.Fatalf("Last(%v): %d, %v", l, x, ok)
	}
}

// P1.1, P1.2: the chapter's examples, and spans beyond the numbers.
func TestOfOneListEdges(t *testing.T) {
	wantSpans(t, span.Norm(of(5, 7, 1, 4, 9, 8)), of(1, 7), "Norm")
	wantSpans(t, span.Norm(of(math.MinInt, math.MaxInt)), of(-api.MaxNum, api.MaxNum), "Norm")
	wantSpans(t, span.Norm(of(math.MaxInt, math.MinInt)), nil, "Norm")
	wantSpans(t, span.Norm(of(api.MaxNum+1, math.MaxInt, math.MinInt, -api.MaxNum-1)), nil, "Norm")
	wantSpans(t, span.Norm(of(api.MaxNum, math.MaxInt, math.MinInt, -api.MaxNum)), of(-api.MaxNum, -api.MaxNum, api.MaxNum, api.MaxNum), "Norm")
	wantSpans(t, span.Norm(of(9, 9, 0, 8, 2, 3)), of(0, 9), "Norm")

	all := of(math.MinInt, 0, -5, math.MaxInt)
	want(t, "Count of all", span.Count(all), 2*api.MaxNum+1)
	for _, c := range []struct {
		i, x int
		ok   bool
	}{{0, -api.MaxNum, true}, {api.MaxNum, 0, true}, {2 * api.MaxNum, api.MaxNum, true}, {2*api.MaxNum + 1, 0, false}, {-1, 0, false}, {math.MaxInt, 0, false}, {math.MinInt, 0, false}} {
		if x, ok := span.At(all, c.i); x != c.x || ok != c.ok {
			t.Errorf("At of all, %d: %d, %v", c.i, x, ok)
		}
	}
	if x, ok := span.At(of(0, 1, 5, 6), 2); x != 5 || !ok {
		t.Errorf("At: %d, %v", x, ok)
	}
	if x, ok := span.First(all); x != -api.MaxNum || !ok {
		t.Errorf("First of all: %d, %v", x, ok)
	}
	if x, ok := span.Last(all); x != api.MaxNum || !ok {
		t.Errorf("Last of all: %d, %v", x, ok)
	}
	for _, x := range []int{math.MinInt, -api.MaxNum - 1, api.MaxNum + 1, math.MaxInt} {
		if span.Has(of(math.MinInt, math.MaxInt), x) {
			t.Errorf("Has(all, %d): true", x)
		}
	}
	for _, x := range []int{-api.MaxNum, 0, api.MaxNum} {
		if !span.Has(of(math.MinInt, math.MaxInt), x) {
			t.Errorf("Has(all, %d): false", x)
		}
	}
}

// P1.2: what is told one by one may be broken off, and told again; it is of the list as it was handed in.
func TestEach(t *testing.T) {
	l := of(5, 6, 1, 2)
	each := span.Each(l)
	l[0], l[1] = api.Span{Lo: 70, Hi: 80}, api.Span{Lo: 3, Hi: 2}
	// Ahead of the last number of a span that isn't the last one, at its end, in the last one, at the very end.
	for n, end := range []int{1, 2, 5, 6} {
		var got []int
		for x := range each {
			got = append(got, x)
			if x == end {
				break
			}
		}
		want(t, "Each, broken off", got, []int{1, 2, 5, 6}[:n+1])
	}
	want(t, "Each, again", slices.Collect(each), []int{1, 2, 5, 6})

	p := of(1, 2, 5, 6)
	each = span.Each(p)
	p[0].Hi = 3
	want(t, "Each of a plain list, written to", slices.Collect(each), []int{1, 2, 5, 6})

	for x := range span.Each(of(math.MinInt, math.MaxInt)) {
		want(t, "Each of all, first", x, -api.MaxNum)
		break
	}
	for x := range span.Each(of(api.MaxNum+1, math.MaxInt, 4, 3)) {
		t.Errorf("Each of nothing: %d", x)
	}
}

// checkTwo holds the calls of two lists against the numbers of both.
func checkTwo(t *testing.T, a, b []api.Span, base int) {
	t.Helper()
	var either, both, alone []int
	for x := base - 2; x <= base+2*width+2; x++ {
		if has(a, x) || has(b, x) {
			either = append(either, x)
		}
		if has(a, x) && has(b, x) {
			both = append(both, x)
		}
		if has(a, x) && !has(b, x) {
			alone = append(alone, x)
		}
	}
	wantSpans(t, span.Union(a, b), plainOf(either), "Union", a, b)
	wantSpans(t, span.Meet(a, b), plainOf(both), "Meet", a, b)
	wantSpans(t, span.Minus(a, b), plainOf(alone), "Minus", a, b)
	if got := span.Within(a, b); got != (len(alone) == 0) {
		t.Fatalf("Within(%v, %v): %v", a, b, got)
	}
	if got := span.Meets(a, b); got != (len(both) > 0) {
		t.Fatalf("Meets(%v, %v): %v", a, b, got)
	}
}

// P1.3: of all pairs of small lists, and of all pairs of sets of eight numbers.
func TestOfTwoLists(t *testing.T) {
	for _, base := range bases {
		l := lists(base, 2)
		for _, a := range l {
			for _, b := range l {
				checkTwo(t, a, b, base)
			}
		}
	}
	sets := subsets(0, 2*width)
	for _, a := range sets {
		for _, b := range sets {
			checkTwo(t, a, b, 0)
		}
	}
}

// P1.3: the chapter's example, and spans beyond the numbers.
func TestOfTwoListsEdges(t *testing.T) {
	all, none := of(math.MinInt, math.MaxInt), of(api.MaxNum+1, math.MaxInt, math.MinInt, -api.MaxNum-1, 2, 1)
	wantSpans(t, span.Minus(of(0, 9), of(3, 4)), of(0, 2, 5, 9), "Minus")
	wantSpans(t, span.Minus(all, of(0, 0)), of(-api.MaxNum, -1, 1, api.MaxNum), "Minus")
	wantSpans(t, span.Minus(all, of(math.MinInt, -api.MaxNum, api.MaxNum, math.MaxInt)), of(1-api.MaxNum, api.MaxNum-1), "Minus")
	wantSpans(t, span.Minus(of(3, 4), all), nil, "Minus")
	wantSpans(t, span.Minus(of(3, 4), none), of(3, 4), "Minus")
	wantSpans(t, span.Minus(none, of(3, 4)), nil, "Minus")
	wantSpans(t, span.Meet(all, all), of(-api.MaxNum, api.MaxNum), "Meet")
	wantSpans(t, span.Meet(none, all), nil, "Meet")
	wantSpans(t, span.Union(none, none), nil, "Union")
	wantSpans(t, span.Union(all, none), of(-api.MaxNum, api.MaxNum), "Union")
	wantSpans(t, span.Union(nil, nil), nil, "Union")
	if !span.Within(none, nil) || !span.Within(none, none) || !span.Within(all, all) || span.Within(all, none) || span.Within(all, of(-api.MaxNum, api.MaxNum-1)) {
		t.Error("Within")
	}
	if span.Meets(none, all) || span.Meets(none, none) || !span.Meets(all, of(api.MaxNum, math.MaxInt)) || span.Meets(nil, all) {
		t.Error("Meets")
	}
}

// P1.4: of all small lists, by the words.
func TestMove(t *testing.T) {
	for _, base := range bases {
		for _, l := range lists(base, 2) {
			for by := -5; by <= 5; by++ {
				var moved []int
				for _, x := range numbers(l, base) {
					if y := x + by; -api.MaxNum <= y && y <= api.MaxNum {
						moved = append(moved, y)
					}
				}
				wantSpans(t, span.Move(l, by), plainOf(moved), "Move", l, by)
			}
		}
	}
}

// P1.4: far moves, and sums that would wrap round.
func TestMoveEdges(t *testing.T) {
	all := of(math.MinInt, math.MaxInt)
	wantSpans(t, span.Move(of(0, 1), -1), of(-1, 0), "Move")
	wantSpans(t, span.Move(of(5, 6, 1, 4, 9, 9), 0), of(1, 6, 9, 9), "Move")
	for _, c := range []struct {
		by   int
		want []api.Span
	}{
		{1, of(1-api.MaxNum, api.MaxNum)}, {-1, of(-api.MaxNum, api.MaxNum-1)},
		{2 * api.MaxNum, of(api.MaxNum, api.MaxNum)}, {-2 * api.MaxNum, of(-api.MaxNum, -api.MaxNum)},
		{2*api.MaxNum + 1, nil}, {-2*api.MaxNum - 1, nil},
		{math.MaxInt, nil}, {math.MinInt, nil}, {math.MaxInt - 5, nil}, {math.MinInt + 5, nil},
	} {
		wantSpans(t, span.Move(all, c.by), c.want, "Move of all", c.by)
	}
	// What lies beyond the numbers is not in the set: so nothing of it comes in.
	wantSpans(t, span.Move(of(api.MaxNum+1, api.MaxNum+5), -3), nil, "Move")
	wantSpans(t, span.Move(of(api.MaxNum, api.MaxNum+5), -3), of(api.MaxNum-3, api.MaxNum-3), "Move")
	wantSpans(t, span.Move(of(math.MinInt, -api.MaxNum), 7), of(7-api.MaxNum, 7-api.MaxNum), "Move")
	wantSpans(t, span.Move(nil, 7), nil, "Move")
}

// P1.5: the laws, of all sets of five numbers.
func TestLaws(t *testing.T) {
	sets := subsets(-2, 5)
	all := of(-2, 2)
	for _, a := range sets {
		wantSpans(t, span.Minus(all, span.Minus(all, a)), a, "twice without", a)
		for _, b := range sets {
			both, alone := span.Meet(a, b), span.Minus(a, b)
			wantSpans(t, span.Union(both, alone), a, "both and alone", a, b)
			wantSpans(t, span.Meet(both, alone), nil, "both with alone", a, b)
			wantSpans(t, span.Union(a, b), span.Union(b, a), "Union", a, b)
			wantSpans(t, both, span.Meet(b, a), "Meet", a, b)
			wantSpans(t, span.Union(a, both), a, "absorbed", a, b)
			wantSpans(t, span.Minus(all, span.Union(a, b)), span.Meet(span.Minus(all, a), span.Minus(all, b)), "neither", a, b)
			if span.Within(a, b) != slices.Equal(both, a) || span.Meets(a, b) != span.Meets(b, a) {
				t.Fatalf("Within, Meets of %v, %v", a, b)
			}
			if span.Count(span.Union(a, b))+span.Count(both) != span.Count(a)+span.Count(b) {
				t.Fatalf("Count of %v, %v", a, b)
			}
			for _, c := range sets {
				wantSpans(t, span.Union(a, span.Union(b, c)), span.Union(span.Union(a, b), c), "Union of three", a, b, c)
				wantSpans(t, span.Meet(a, span.Meet(b, c)), span.Meet(both, c), "Meet of three", a, b, c)
				wantSpans(t, span.Meet(a, span.Union(b, c)), span.Union(both, span.Meet(a, c)), "spread", a, b, c)
			}
		}
	}
}

// calls is every call of two lists that answers one.
var calls = map[string]func(a, b []api.Span) []api.Span{
	"Norm":   func(a, b []api.Span) []api.Span { return span.Norm(a) },
	"Union":  span.Union,
	"Meet":   span.Meet,
	"Minus":  span.Minus,
	"Move":   func(a, b []api.Span) []api.Span { return span.Move(a, 0) },
	"Union'": func(a, b []api.Span) []api.Span { return span.Union(b, a) },
	"Meet'":  func(a, b []api.Span) []api.Span { return span.Meet(b, a) },
}

// Rule 4: what is handed in isn't changed, its spare room neither; what is answered is new memory.
func TestMemory(t *testing.T) {
	pairs := [][2][]api.Span{
		{of(1, 2, 5, 6), of(0, 9)}, {of(1, 2, 5, 6), nil}, {of(5, 6, 1, 2, 3, 4), of(9, 8, 0, 9)}, {of(1, 2), of(math.MinInt, math.MaxInt)}, {of(1, 9), of(20, 21)},
	}
	for name, call := range calls {
		for _, p := range pairs {
			a, b := roomy(p[0]), roomy(p[1])
			first := call(a, b)
			kept := slices.Clone(first)
			for i := range first {
				first[i] = api.Span{Lo: -77, Hi: -77}
			}
			_ = append(first, api.Span{Lo: -78, Hi: -78})
			if !slices.Equal(a[:cap(a)], roomy(p[0])[:cap(a)]) || !slices.Equal(b[:cap(b)], roomy(p[1])[:cap(b)]) {
				t.Errorf("%s of %v: what was handed in is changed", name, p)
			}
			wantSpans(t, call(a, b), kept, name+" once more", p)
		}
	}
	a, b := roomy(of(5, 6, 1, 2)), roomy(of(4, 3, 2, 9))
	span.Check(a)
	span.Count(a)
	span.First(a)
	span.Last(a)
	span.At(a, 2)
	span.Has(a, 6)
	span.Within(a, b)
	span.Meets(a, b)
	_ = slices.Collect(span.Each(a))
	if !slices.Equal(a[:cap(a)], roomy(of(5, 6, 1, 2))[:cap(a)]) || !slices.Equal(b[:cap(b)], roomy(of(4, 3, 2, 9))[:cap(b)]) {
		t.Error("what was handed in is changed")
	}
}

// roomy is a list with spare room that is written to.
func roomy(l []api.Span) []api.Span {
	out := make([]api.Span, len(l)+3)
	for i := copy(out, l); i < len(out); i++ {
		out[i] = api.Span{Lo: 1000 + i, Hi: 2000 + i}
	}
	return out[: len(l) : len(l)+3]
}
