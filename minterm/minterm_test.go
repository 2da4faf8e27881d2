package minterm_test

import (
	"math"
	"math/rand"
	"slices"
	"testing"

	"umlaut/api"
	"umlaut/minterm"
)

// of writes a list by its bounds.
func of(bounds ...int) []api.Span {
	var l []api.Span
	for i := 0; i < len(bounds); i += 2 {
		l = append(l, api.Span{Lo: bounds[i], Hi: bounds[i+1]})
	}
	return l
}

// has is the word of chapter 1: a number, and in one of the spans.
func has(l []api.Span, x int) bool {
	return -api.MaxNum <= x && x <= api.MaxNum && slices.ContainsFunc(l, func(s api.Span) bool { return s.Lo <= x && x <= s.Hi })
}

// width is how many numbers the bounds of the lists that are tried lie among, from a base on.
const width = 6

// bases: in the midst of the numbers, and where some bounds lie beyond them.
var bases = []int{-2, -api.MaxNum - 3, api.MaxNum - 2}

// near is all numbers that lists with bounds from a base on may have.
func near(base int) []int {
	var out []int
	for x := base - 1; x <= base+width+1; x++ {
		out = append(out, x)
	}
	return out
}

// with lays a number that is above all others behind those of a plain list.
func with(l []api.Span, x int) []api.Span {
	if len(l) > 0 && l[len(l)-1].Hi == x-1 {
		l[len(l)-1].Hi = x
		return l
	}
	return append(l, api.Span{Lo: x, Hi: x})
}

// split is the chapter's word, number by number: each is laid to the first block whose numbers the same sets have.
func split(all []api.Span, family [][]api.Span, among []int) [][]api.Span {
	var out [][]api.Span
	for _, x := range among {
		if !has(all, x) {
			continue
		}
		k := slices.IndexFunc(out, func(b []api.Span) bool {
			return !slices.ContainsFunc(family, func(s []api.Span) bool { return has(s, x) != has(s, b[0].Lo) })
		})
		if k < 0 {
			out = append(out, nil)
			k = len(out) - 1
		}
		out[k] = with(out[k], x)
	}
	return out
}

// refine is the chapter's word, number by number.
func refine(blocks [][]api.Span, s []api.Span, among []int) [][]api.Span {
	var halves [][]api.Span
	for _, b := range blocks {
		for _, inside := range []bool{true, false} {
			var half []api.Span
			for _, x := range among {
				if has(b, x) && has(s, x) == inside {
					half = with(half, x)
				}
			}
			halves = append(halves, half)
		}
	}
	var out [][]api.Span
	for _, x := range among {
		for _, h := range halves {
			if len(h) > 0 && h[0].Lo == x {
				out = append(out, h)
			}
		}
	}
	return out
}

func same(a, b [][]api.Span) bool {
	return slices.EqualFunc(a, b, func(x, y []api.Span) bool { return slices.Equal(x, y) })
}

func wantLists(t *testing.T, got [][]api.Span, e api.Errno, want [][]api.Span, what string, from ...any) {
	t.Helper()
	if e != api.OK || !same(got, want) {
		t.Fatalf("%s%v: %v, %d, not %v", what, from, got, e, want)
	}
}

// tries tells lists by chance, the same ones in each run.
type tries struct{ *rand.Rand }

func try() tries { return tries{rand.New(rand.NewSource(5))} }

// list is a list of up to most spans near a base: empty spans, and such that lie over one another, are among them.
func (r tries) list(base, most int) []api.Span {
	var l []api.Span
	for range r.Intn(most + 1) {
		l = append(l, api.Span{Lo: base + r.Intn(width), Hi: base + r.Intn(width)})
	}
	return l
}

// lists is up to most such lists.
func (r tries) lists(base, most int) [][]api.Span {
	var l [][]api.Span
	for range r.Intn(most + 1) {
		l = append(l, r.list(base, 3))
	}
	return l
}

// P5.1, P5.4
func TestSplit(t *testing.T) {
	r := try()
	for range 30000 {
		base := bases[r.Intn(len(bases))]
		all, family := r.list(base, 3), r.lists(base, 4)
		want := split(all, family, near(base))
		got, e := minterm.Split(all, family)
		wantLists(t, got, e, want, "Split", all, family)
		r.Shuffle(len(family), func(i, j int) { family[i], family[j] = family[j], family[i] })
		got, e = minterm.Split(all, family)
		wantLists(t, got, e, want, "Split", all, family)
		checkParted(t, got, all, family, near(base))
	}
}

// checkParted holds P5.4 against the numbers: each of all's is in one block, no other one is in any, and each set has all of a block, or nothing.
func checkParted(t *testing.T, blocks [][]api.Span, all []api.Span, family [][]api.Span, among []int) {
	t.Helper()
	for _, x := range among {
		n := 0
		for _, b := range blocks {
			if has(b, x) {
				n++
			}
		}
		if n > 1 || (n == 1) != has(all, x) {
			t.Fatalf("Split(%v, %v): %d is in %d blocks", all, family, x, n)
		}
	}
	for _, s := range family {
		for _, b := range blocks {
			for _, x := range among {
				if has(b, x) && has(s, x) != has(s, b[0].Lo) {
					t.Fatalf("Split(%v, %v): %v is told apart by %v", all, family, b, s)
				}
			}
		}
	}
}

// P5.1: families of many sets, which tell apart by few of them.
func TestSplitByMany(t *testing.T) {
	r := try()
	for n := range 40 {
		family := make([][]api.Span, n)
		for i := range family {
			family[i] = r.list(0, 2)
		}
		for _, all := range [][]api.Span{of(-1, 6), of(4, 5, 0, 2), of(3, 2)} {
			got, e := minterm.Split(all, family)
			wantLists(t, got, e, split(all, family, near(0)), "Split", all, family)
		}
	}
	// Each set alone tells one number from the others.
	for n := range 40 {
		family := make([][]api.Span, n+1)
		family[n] = of(3, 3)
		got, e := minterm.Split(of(0, 9), family)
		wantLists(t, got, e, [][]api.Span{of(0, 2, 4, 9), of(3, 3)}, "Split", family)
	}
}

// P5.1: the chapter's example, none, all numbers, and spans beyond them.
func TestSplitEdges(t *testing.T) {
	every := of(math.MinInt, math.MaxInt)
	for _, c := range []struct {
		all          []api.Span
		family, want [][]api.Span
	}{
		{of(0, 9), [][]api.Span{of(2, 5), of(4, 7)}, [][]api.Span{of(0, 1, 8, 9), of(2, 3), of(4, 5), of(6, 7)}},
		{nil, nil, nil},
		{nil, [][]api.Span{of(2, 5)}, nil},
		{of(9, 0), [][]api.Span{every}, nil},
		{of(api.MaxNum+1, math.MaxInt), [][]api.Span{every}, nil},
		{of(5, 9, 0, 4), nil, [][]api.Span{of(0, 9)}},
		{of(0, 9), [][]api.Span{nil, of(3, 2), of(10, 20), of(-5, -1)}, [][]api.Span{of(0, 9)}},
		{of(0, 9), [][]api.Span{every, of(-1, 10), of(0, 9)}, [][]api.Span{of(0, 9)}},
		{of(0, 9), [][]api.Span{of(0, 4), of(5, 9)}, [][]api.Span{of(0, 4), of(5, 9)}},
		{of(0, 9), [][]api.Span{of(0, 4, 5, 9)}, [][]api.Span{of(0, 9)}},
		{of(0, 2, 7, 9), [][]api.Span{of(2, 7)}, [][]api.Span{of(0, 1, 8, 9), of(2, 2, 7, 7)}},
		{of(0, 2, 7, 9), [][]api.Span{of(3, 6)}, [][]api.Span{of(0, 2, 7, 9)}},
		{every, nil, [][]api.Span{of(-api.MaxNum, api.MaxNum)}},
		{every, [][]api.Span{of(0, math.MaxInt)}, [][]api.Span{of(-api.MaxNum, -1), of(0, api.MaxNum)}},
		{every, [][]api.Span{of(api.MaxNum, api.MaxNum), of(math.MinInt, -api.MaxNum)}, [][]api.Span{of(-api.MaxNum, -api.MaxNum), of(1-api.MaxNum, api.MaxNum-1), of(api.MaxNum, api.MaxNum)}},
	} {
		got, e := minterm.Split(c.all, c.family)
		wantLists(t, got, e, c.want, "Split", c.all, c.family)
	}
}

// ones is a set for each of n numbers from 0 on.
func ones(n int) [][]api.Span {
	var out [][]api.Span
	for x := range n {
		out = append(out, of(x, x))
	}
	return out
}

// P5.1: as many blocks as may be, and one more; what lies outside of all isn't counted.
func TestSplitLimit(t *testing.T) {
	family := ones(api.MaxBlocks)
	got, e := minterm.Split(of(0, api.MaxBlocks-1), family)
	wantLists(t, got, e, family, "Split")
	got, e = minterm.Split(of(0, api.MaxBlocks-1, 5000, 6000), family[:api.MaxBlocks-1])
	if e != api.OK || len(got) != api.MaxBlocks || !slices.Equal(got[api.MaxBlocks-1], of(api.MaxBlocks-1, api.MaxBlocks-1, 5000, 6000)) {
		t.Errorf("Split: %d blocks, %d", len(got), e)
	}
	if got, e := minterm.Split(of(0, api.MaxBlocks), family); e != api.ErrLong || len(got) > 0 {
		t.Errorf("Split: %d blocks, %d", len(got), e)
	}
	got, e = minterm.Split(of(7, 8), ones(9*api.MaxBlocks))
	wantLists(t, got, e, [][]api.Span{of(7, 7), of(8, 8)}, "Split")
	// Ten sets tell 1024 numbers apart, of which each block comes twice.
	var bits [][]api.Span
	for k := range 10 {
		var s []api.Span
		for x := range 2 * api.MaxBlocks {
			if x>>k&1 == 1 {
				s = append(s, api.Span{Lo: x, Hi: x})
			}
		}
		bits = append(bits, s)
	}
	got, e = minterm.Split(of(0, 2*api.MaxBlocks-1), bits)
	if e != api.OK || len(got) != api.MaxBlocks || !slices.Equal(got[3], of(3, 3, api.MaxBlocks+3, api.MaxBlocks+3)) {
		t.Errorf("Split: %d blocks, %d", len(got), e)
	}
	if got, e := minterm.Split(of(0, 2*api.MaxBlocks), append(bits, of(2*api.MaxBlocks, 2*api.MaxBlocks))); e != api.ErrLong || len(got) > 0 {
		t.Errorf("Split: %d blocks, %d", len(got), e)
	}
}

// P5.2
func TestRefine(t *testing.T) {
	r := try()
	for range 30000 {
		base := bases[r.Intn(len(bases))]
		blocks, s := r.lists(base, 4), r.list(base, 3)
		got, e := minterm.Refine(blocks, s)
		wantLists(t, got, e, refine(blocks, s, near(base)), "Refine", blocks, s)
	}
}

// P5.2: none, like ones, lists that have nothing, spans beyond the numbers.
func TestRefineEdges(t *testing.T) {
	every := of(math.MinInt, math.MaxInt)
	for _, c := range []struct {
		blocks [][]api.Span
		s      []api.Span
		want   [][]api.Span
	}{
		{nil, nil, nil},
		{nil, every, nil},
		{[][]api.Span{nil, of(2, 1), of(api.MaxNum+1, math.MaxInt)}, of(1, 2), nil},
		{[][]api.Span{of(0, 9)}, nil, [][]api.Span{of(0, 9)}},
		{[][]api.Span{of(0, 9)}, of(5, 9), [][]api.Span{of(0, 4), of(5, 9)}},
		{[][]api.Span{of(0, 9)}, of(0, 4), [][]api.Span{of(0, 4), of(5, 9)}},
		{[][]api.Span{of(5, 9, 0, 4)}, every, [][]api.Span{of(0, 9)}},
		{[][]api.Span{of(5, 9), of(0, 4)}, nil, [][]api.Span{of(0, 4), of(5, 9)}},
		{[][]api.Span{of(3, 9), of(3, 5), of(3, 9)}, nil, [][]api.Span{of(3, 9), of(3, 5), of(3, 9)}},
		{[][]api.Span{of(3, 9), of(3, 5), of(3, 7)}, of(3, 4), [][]api.Span{of(3, 4), of(3, 4), of(3, 4), of(5, 9), of(5, 5), of(5, 7)}},
		// What is in s has the same least number as what another list has beyond it.
		{[][]api.Span{of(4, 4, 6, 7), of(4, 6), of(6, 9)}, of(6, 6), [][]api.Span{of(4, 4, 7, 7), of(4, 5), of(6, 6), of(6, 6), of(6, 6), of(7, 9)}},
		{[][]api.Span{every}, of(0, math.MaxInt), [][]api.Span{of(-api.MaxNum, -1), of(0, api.MaxNum)}},
	} {
		got, e := minterm.Refine(c.blocks, c.s)
		wantLists(t, got, e, c.want, "Refine", c.blocks, c.s)
	}
}

// P5.2: of many like ones the order is kept, as of all that come to more than a dozen.
func TestRefineMany(t *testing.T) {
	var blocks, want [][]api.Span
	for i := range 300 {
		blocks = append(blocks, of(i%3, 1000-i))
	}
	for k := range 3 {
		for i := range 300 {
			if i%3 == k {
				want = append(want, of(k, 1000-i))
			}
		}
	}
	got, e := minterm.Refine(blocks, nil)
	wantLists(t, got, e, want, "Refine")
}

// P5.2: as many lists as may be, and one more; those that have nothing aren't counted.
func TestRefineLimit(t *testing.T) {
	blocks := ones(api.MaxBlocks)
	got, e := minterm.Refine(blocks, of(0, 9))
	wantLists(t, got, e, blocks, "Refine")
	got, e = minterm.Refine(append(make([][]api.Span, 77), blocks...), nil)
	wantLists(t, got, e, blocks, "Refine")
	if got, e := minterm.Refine(ones(api.MaxBlocks+1), nil); e != api.ErrLong || len(got) > 0 {
		t.Errorf("Refine: %d lists, %d", len(got), e)
	}
	blocks[0] = of(0, 0, 5000, 5000)
	if got, e := minterm.Refine(blocks, of(5000, 5000)); e != api.ErrLong || len(got) > 0 {
		t.Errorf("Refine: %d lists, %d", len(got), e)
	}
	blocks[0], blocks[1023] = of(0, 0), of(1023, 1024)
	if got, e := minterm.Refine(blocks, of(1024, 1024)); e != api.ErrLong || len(got) > 0 {
		t.Errorf("Refine: %d lists, %d", len(got), e)
	}
}

// P5.1, P5.2: a family's sets, one after the other, part all as the family does.
func TestRefineSplits(t *testing.T) {
	r := try()
	for range 5000 {
		all, family := r.list(0, 3), r.lists(0, 4)
		got, e := minterm.Refine([][]api.Span{all}, nil)
		for _, s := range family {
			got, e = minterm.Refine(got, s)
		}
		wantLists(t, got, e, split(all, family, near(0)), "Refine", all, family)
	}
}

// P5.3
func TestClass(t *testing.T) {
	r := try()
	for range 5000 {
		base := bases[r.Intn(len(bases))]
		blocks := r.lists(base, 4)
		for _, x := range near(base) {
			want := slices.IndexFunc(blocks, func(b []api.Span) bool { return has(b, x) })
			if got := minterm.Class(blocks, x); got != want {
				t.Fatalf("Class(%v, %d): %d, not %d", blocks, x, got, want)
			}
		}
	}
	every := of(math.MinInt, math.MaxInt)
	for _, c := range []struct {
		blocks  [][]api.Span
		x, want int
	}{
		{nil, 0, -1}, {[][]api.Span{nil, of(5, 4)}, 5, -1}, {[][]api.Span{nil, every, every}, -5, 1},
		{[][]api.Span{every}, api.MaxNum, 0}, {[][]api.Span{every}, -api.MaxNum, 0},
		{[][]api.Span{every}, api.MaxNum + 1, -1}, {[][]api.Span{every}, -api.MaxNum - 1, -1},
		{[][]api.Span{every}, math.MaxInt, -1}, {[][]api.Span{every}, math.MinInt, -1},
	} {
		if got := minterm.Class(c.blocks, c.x); got != c.want {
			t.Errorf("Class(%v, %d): %d, not %d", c.blocks, c.x, got, c.want)
		}
	}
}

// P5.3
func TestRow(t *testing.T) {
	r := try()
	for range 500 {
		var blocks [][]api.Span
		for range r.Intn(6) {
			lo := r.Intn(300) - 20
			blocks = append(blocks, of(lo, lo+r.Intn(200), r.Intn(256), r.Intn(256)))
		}
		checkRow(t, blocks)
		checkRow(t, append(blocks, of(-7, 300)))
	}
	checkRow(t, nil)
	checkRow(t, [][]api.Span{of(0, 255)})
	checkRow(t, [][]api.Span{of(0, 254)})
	checkRow(t, [][]api.Span{of(1, 255)})
	checkRow(t, [][]api.Span{of(128, 255, 0, 127), of(3, 3)})
	checkRow(t, ones(256))
	many := ones(256)
	slices.Reverse(many)
	checkRow(t, many)
	checkRow(t, ones(255))
}

// checkRow holds the row of up to 256 lists against the class of each byte.
func checkRow(t *testing.T, blocks [][]api.Span) {
	t.Helper()
	var want []uint8
	e := api.OK
	for x := range 256 {
		k := slices.IndexFunc(blocks, func(b []api.Span) bool { return has(b, x) })
		if k < 0 {
			e = api.ErrArg
		}
		want = append(want, uint8(k))
	}
	if e != api.OK {
		want = nil
	}
	if got, errno := minterm.Row(blocks); errno != e || !slices.Equal(got, want) {
		t.Fatalf("Row(%v): %v, %d", blocks, got, errno)
	}
}

// P5.3: of more than 256 lists, even if all bytes are in the first one, or none is in any.
func TestRowLimit(t *testing.T) {
	for _, blocks := range [][][]api.Span{ones(257), make([][]api.Span, 257), append([][]api.Span{of(0, 255)}, make([][]api.Span, 256)...)} {
		if got, e := minterm.Row(blocks); e != api.ErrLong || len(got) > 0 {
			t.Errorf("Row of %d lists: %v, %d", len(blocks), got, e)
		}
	}
	if got, e := minterm.Row(make([][]api.Span, 256)); e != api.ErrArg || len(got) > 0 {
		t.Errorf("Row of empty lists: %v, %d", got, e)
	}
}

// P5.3
func TestLeast(t *testing.T) {
	for _, c := range []struct {
		blocks [][]api.Span
		want   []int
	}{
		{nil, nil},
		{[][]api.Span{of(5, 9, 2, 3), nil, of(0, 0), of(7, 6)}, []int{2, -1, 0, -1}},
		{[][]api.Span{of(-1, 4), of(-7, -7), of(math.MinInt, 0), of(api.MaxNum, math.MaxInt), of(api.MaxNum+1, math.MaxInt)}, []int{-1, -7, -api.MaxNum, api.MaxNum, -1}},
	} {
		if got := minterm.Least(c.blocks); !slices.Equal(got, c.want) {
			t.Errorf("Least(%v): %v, not %v", c.blocks, got, c.want)
		}
	}
}

// roomy is a list with room behind it, that is written to if one appends to it.
func roomy(l []api.Span) []api.Span {
	out := append(make([]api.Span, 0, len(l)+3), l...)
	for i := len(l); i < cap(out); i++ {
		out[:cap(out)][i] = api.Span{Lo: 66, Hi: 66}
	}
	return out
}

// roomyLists is lists with room behind them and behind each.
func roomyLists(l [][]api.Span) [][]api.Span {
	out := make([][]api.Span, 0, len(l)+2)
	for _, s := range l {
		out = append(out, roomy(s))
	}
	copy(out[len(l):cap(out)], [][]api.Span{of(55, 55), of(44, 44)})
	return out
}

// whole is lists with all that lies in their room.
func whole(l [][]api.Span) [][]api.Span {
	l = slices.Clone(l[:cap(l)])
	for i, s := range l {
		l[i] = s[:cap(s)]
	}
	return l
}

// Rule 4: what is handed in isn't changed, its spare room neither; what is answered is new memory, of which no two lists share any.
func TestMemory(t *testing.T) {
	calls := map[string]func(s []api.Span, l [][]api.Span) [][]api.Span{
		"Split": func(s []api.Span, l [][]api.Span) [][]api.Span { out, _ := minterm.Split(s, l); return out },
		"Refine": func(s []api.Span, l [][]api.Span) [][]api.Span {
			out, _ := minterm.Refine(l, s)
			return out
		},
		"Row": func(s []api.Span, l [][]api.Span) [][]api.Span {
			minterm.Row(l)
			minterm.Least(l)
			minterm.Class(l, 3)
			return nil
		},
	}
	for name, call := range calls {
		for _, s := range [][]api.Span{of(0, 255), of(4, 5, 0, 2), of(0, 0)} {
			l := [][]api.Span{of(0, 9), of(0, 9), of(5, 255, 3, 4), of(0, 0), nil}
			in, set := roomyLists(l), roomy(s)
			first := call(set, in)
			var kept [][]api.Span
			for _, b := range first {
				kept = append(kept, slices.Clone(b))
			}
			for i := range first {
				_ = append(first[i], api.Span{Lo: -78, Hi: -78})
				for k := range first {
					if k != i && !slices.Equal(first[k], kept[k]) {
						t.Errorf("%s: lists share memory", name)
					}
				}
				for k := range first[i] {
					first[i][k] = api.Span{Lo: -77, Hi: -77}
				}
				kept[i] = slices.Clone(first[i])
			}
			if !same(whole(in), whole(roomyLists(l))) || !slices.Equal(set[:cap(set)], roomy(s)[:cap(set)]) {
				t.Errorf("%s of %v, %v: what was handed in is changed", name, s, l)
			}
			if again := call(set, in); !same(again, call(roomy(s), roomyLists(l))) {
				t.Errorf("%s of %v, %v: %v once more", name, s, l, again)
			}
		}
	}
}
