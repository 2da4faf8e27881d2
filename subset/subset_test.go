package subset_test

import (
	"fmt"
	"math"
	"strings"
	"testing"

	"umlaut/api"
	"umlaut/codec"
	"umlaut/desc"
	"umlaut/span"
	"umlaut/subset"
	"umlaut/word"
)

// set is the spans from each first number to the one behind it.
func set(ends ...int) []api.Span {
	var l []api.Span
	for i := 0; i < len(ends); i += 2 {
		l = append(l, api.Span{Lo: ends[i], Hi: ends[i+1]})
	}
	return l
}

// reads is a rule that reads and eats a symbol of a set.
func reads(from, to int, guard []api.Span) api.Rule {
	return api.Rule{From: from, To: to, Guards: [][]api.Span{guard}, Eat: 1}
}

// from is a description from bytes to bytes that ends at some states.
func from(states int, rules []api.Rule, ends ...int) api.Desc {
	d := api.Desc{In: api.Bytes, Out: api.Bytes, States: states, Rules: rules}
	for _, q := range ends {
		d.Finals = append(d.Finals, api.Final{From: q})
	}
	return d
}

// letters reads n times a, or any number of times so many.
func letters(n int, round bool) api.Desc {
	d := from(n+1, nil, n)
	for i := range n {
		d.Rules = append(d.Rules, reads(i, i+1, set('a', 'a')))
	}
	if round {
		d.Rules = append(d.Rules, reads(n, 0, set('a', 'a')))
	}
	return d
}

// cycle reads a as often as n times any number, and once more if and where it ends elsewhere.
func cycle(n int, ends ...int) api.Desc {
	var rules []api.Rule
	for i := range n {
		rules = append(rules, reads(i, (i+1)%n, set('a', 'a')))
	}
	return from(n, rules, ends...)
}

// late reads all of which the n-th symbol from the end on is an a.
func late(n int) api.Desc {
	all := set(0, 255)
	rules := []api.Rule{reads(0, 0, all), reads(0, 1, set('a', 'a'))}
	for i := 1; i < n; i++ {
		rules = append(rules, reads(i, i+1, all))
	}
	return from(n+1, rules, n)
}

// wantSame asks Same once.
func wantSame(t *testing.T, a, b api.Desc, n int, same bool, w string, want api.Errno) {
	t.Helper()
	ok, got, e := subset.Same(a, b, n)
	if ok != same || string(got) != w || e != want {
		s := fmt.Sprint(a, b)
		t.Fatalf("Same, %d: %v, %q, %d, not %v, %q, %d: %s", n, ok, string(got), e, same, w, want, s[:min(len(s), 2000)])
	}
}

// P20.2: the chapter's example, and the least ones.
func TestExamples(t *testing.T) {
	wantSame(t, letters(2, false), cycle(1, 0), 1, false, "", api.OK)
	wantSame(t, letters(2, false), cycle(1, 0), 0, false, "", api.ErrBudget)
	nothing, empty := desc.Empty(api.Bytes, api.Bytes), from(1, nil, 0)
	wantSame(t, nothing, nothing, 2, true, "", api.OK)
	wantSame(t, nothing, nothing, 1, false, "", api.ErrBudget)
	wantSame(t, empty, nothing, 1, false, "", api.OK)
	wantSame(t, nothing, empty, 1, false, "", api.OK)
	// What both haven't tells nothing apart, nor does where they come to by it.
	wantSame(t, empty, empty, 2, true, "", api.OK)
	wantSame(t, empty, letters(0, true), 9, false, "a", api.OK)
	// What isn't written counts for nothing, nor does how often a final is there.
	other := desc.Same(api.Bytes)
	other.Finals = append(other.Finals, api.Final{}, api.Final{})
	wantSame(t, other, from(1, []api.Rule{reads(0, 0, set(0, 255))}, 0), 1, true, "", api.OK)
	// Sorts of what is written may be unlike.
	other = desc.Empty(api.Bytes, api.Scalars)
	wantSame(t, other, nothing, 2, true, "", api.OK)
}

// P20.1: the blocks are of all symbols of the sort, and of the guards of both.
func TestBlocks(t *testing.T) {
	for _, c := range []struct {
		a, b api.Desc
		want string
	}{
		{desc.Empty(api.Bytes, api.Bytes), desc.Empty(api.Bytes, api.Scalars), "[[{0 255}]]"},
		{desc.Same(api.Bytes), letters(3, true), "[[{0 96} {98 255}] [{97 97}]]"},
		{letters(1, false), from(1, []api.Rule{reads(0, 0, set('a', 'b', 'd', 'd'))}), "[[{0 96} {99 99} {101 255}] [{97 97}] [{98 98} {100 100}]]"},
		{desc.Empty(api.Scalars, api.Bytes), desc.Empty(api.Scalars, api.Scalars), "[[{0 55295} {57344 1114111}]]"},
		{codec.Encoder(), desc.Same(api.Scalars), "[[{0 127}] [{128 2047}] [{2048 55295} {57344 65535}] [{65536 1114111}]]"},
	} {
		if l, e := subset.Blocks(c.a, c.b); fmt.Sprint(l) != c.want || e != api.OK {
			t.Errorf("Blocks: %v, %d, not %s", l, e, c.want)
		}
		if l, e := subset.Blocks(c.b, c.a); fmt.Sprint(l) != c.want || e != api.OK {
			t.Errorf("Blocks, the other way round: %v, %d, not %s", l, e, c.want)
		}
	}
}

// wantErrors asks both calls for an error, both ways round, and for nothing else.
func wantErrors(t *testing.T, what string, a, b api.Desc, want api.Errno) {
	t.Helper()
	for _, l := range [][2]api.Desc{{a, b}, {b, a}} {
		if blocks, e := subset.Blocks(l[0], l[1]); len(blocks) > 0 || e != want {
			t.Errorf("%s: Blocks: %d blocks, %d, not %d", what, len(blocks), e, want)
		}
		for _, n := range []int{math.MaxInt, 1, 0, -1, math.MinInt} {
			if ok, w, e := subset.Same(l[0], l[1], n); ok || len(w) > 0 || e != want {
				t.Errorf("%s: Same, %d: %v, %x, %d, not %d", what, n, ok, w, e, want)
			}
		}
	}
}

// singles reads n of the symbols from a first one on, each by a rule of its own.
func singles(first, n int) api.Desc {
	d := desc.Empty(api.Scalars, api.Scalars)
	for i := range n {
		d.Rules = append(d.Rules, reads(0, 0, set(first+i, first+i)))
	}
	return d
}

// P20.1: the errors, and which goes first.
func TestErrors(t *testing.T) {
	fine := desc.Same(api.Bytes)
	bad := func(d api.Desc) api.Desc {
		d.Start = -1
		return d
	}
	epsilon := from(2, []api.Rule{{To: 1}}, 1)
	wide := from(1, []api.Rule{{Guards: [][]api.Span{set('a', 'a'), set('b', 'b')}, Eat: 2}}, 0)
	held := from(1, nil)
	held.Finals = []api.Final{{Guards: [][]api.Span{set('a', 'a')}}}
	many := singles(0, 1025)
	wantErrors(t, "not well formed", fine, bad(fine), api.ErrInvalid)
	wantErrors(t, "neither is anything", api.Desc{}, api.Desc{}, api.ErrInvalid)
	wantErrors(t, "no sort", api.Desc{In: 3, Out: 1, States: 1}, api.Desc{In: 3, Out: 1, States: 1}, api.ErrInvalid)
	wantErrors(t, "a cycle of epsilon rules", from(2, []api.Rule{{To: 1}, {From: 1}}), fine, api.ErrInvalid)
	wantErrors(t, "unlike sorts", fine, desc.Same(api.Scalars), api.ErrInvalid)
	wantErrors(t, "unlike sorts, though the same is written", desc.Empty(api.Scalars, api.Bytes), fine, api.ErrInvalid)
	wantErrors(t, "unlike sorts, and lookahead", codec.Strict(), codec.Encoder(), api.ErrInvalid)
	wantErrors(t, "epsilon rules, and not well formed", epsilon, bad(fine), api.ErrInvalid)
	wantErrors(t, "too many blocks, and not well formed", many, bad(many), api.ErrInvalid)
	wantErrors(t, "epsilon rules", epsilon, fine, api.ErrArg)
	wantErrors(t, "more than one symbol", wide, fine, api.ErrArg)
	wantErrors(t, "a symbol left", held, fine, api.ErrArg)
	wantErrors(t, "lookahead", codec.Repairer(), fine, api.ErrArg)
	wide.In, wide.Out = api.Scalars, api.Scalars
	wantErrors(t, "too many blocks, and more than one symbol", many, wide, api.ErrArg)
	wantErrors(t, "too many blocks", many, desc.Same(api.Scalars), api.ErrLong)
	wantErrors(t, "too many blocks of both", singles(0, 600), singles(500, 524), api.ErrLong)
	if l, e := subset.Blocks(singles(0, 600), singles(500, 523)); len(l) != 1024 || e != api.OK {
		t.Errorf("Blocks: %d, %d", len(l), e)
	}
	wantSame(t, singles(0, 600), singles(500, 523), 3, false, "", api.ErrBudget)
	wantSame(t, singles(0, 600), singles(500, 523), 4, true, "", api.OK)
}

// P20.2: pairs come in the order of blocks, and the word has their least symbols.
func TestOrder(t *testing.T) {
	a := from(4, []api.Rule{reads(0, 1, set('c', 'd', 'x', 'x')), reads(0, 2, set('b', 'b', 'z', 'z')), reads(1, 3, set(7, 9)), reads(2, 3, set(8, 9))}, 3)
	b := from(1, nil)
	wantSame(t, a, b, 9, false, "b\x08", api.OK)
	wantSame(t, b, a, 9, false, "b\x08", api.OK)
	// The first pair, that of no states, that behind b, that behind c: behind b the fifth one tells apart.
	wantSame(t, a, b, 5, false, "b\x08", api.OK)
	wantSame(t, a, b, 4, false, "", api.ErrBudget)
	// A pair that came with an earlier block, or from an earlier pair, has that word.
	a.Rules = append(a.Rules, reads(0, 2, set(5, 5)), reads(1, 2, set('q', 'q')))
	wantSame(t, a, b, 9, false, "\x05\x08", api.OK)
	// Both have states: just one of them may end.
	c := from(2, []api.Rule{reads(0, 1, set(0, 255)), reads(1, 1, set(0, 255))}, 0, 1)
	d := from(2, []api.Rule{reads(0, 1, set(0, 255)), reads(1, 0, set('a', 'a')), reads(1, 1, set(0, 'a'-1, 'c', 255))}, 0, 1)
	wantSame(t, c, d, 9, false, "\x00b", api.OK)
}

// P20.2: sets of more states than one, and as many pairs as there may be.
func TestExponential(t *testing.T) {
	for _, n := range []int{1, 5, 12} {
		// Each of so many sets comes, beside itself.
		wantSame(t, late(n), late(n), 1<<n, true, "", api.OK)
		wantSame(t, late(n), late(n), 1<<n-1, false, "", api.ErrBudget)
		wantSame(t, late(n), late(n+1), math.MaxInt, false, "a"+strings.Repeat("\x00", n-1), api.OK)
	}
	// Nearly all sets of very many states: more than any budget.
	const states = 1024
	var rules []api.Rule
	for i := range states - 1 {
		rules = append(rules, reads(i, i+1, set(0, 255)), reads(i, 0, set('b', 'b')))
	}
	grow := from(states, append(rules, reads(states-1, states-1, set(0, 255))), states-1)
	if ok, w, e := subset.Same(grow, grow, 5000); ok || len(w) > 0 || e != api.ErrBudget {
		t.Errorf("Same: %v, %d, %d", ok, len(w), e)
	}
}

// P20.2: cycles, and words as long as they must be.
func TestCycles(t *testing.T) {
	// With the pairs of no states, and of a state and none.
	wantSame(t, cycle(2, 0), cycle(4, 0, 2), 5, true, "", api.OK)
	wantSame(t, cycle(2, 0), cycle(4, 0, 2), 4, false, "", api.ErrBudget)
	wantSame(t, cycle(512, 0), cycle(1024, 0, 512), 1025, true, "", api.OK)
	wantSame(t, cycle(512, 0), cycle(1024, 0, 512), 1024, false, "", api.ErrBudget)
	wantSame(t, cycle(1024, 0), cycle(1023, 0), 1025, false, strings.Repeat("a", 1023), api.OK)
	wantSame(t, cycle(1024, 0), cycle(1023, 0), 1024, false, "", api.ErrBudget)
	// They end together till both cycles are gone.
	last := cycle(1023, 1022)
	last.Finals = append(last.Finals, api.Final{From: 1022})
	wantSame(t, cycle(1024, 1022), last, 1<<20, false, strings.Repeat("a", 1022+1023), api.OK)
}

// P20.2: as many states, rules and blocks as there may be.
func TestGreat(t *testing.T) {
	// Each state goes on with all symbols, and so do the pairs; behind some of them all guards are told apart.
	total := func(n int) api.Desc {
		d := api.Desc{In: api.Scalars, Out: api.Bytes, States: n}
		for q := range n {
			at := 7 * q % 1000
			d.Rules = append(d.Rules, reads(q, (q+1)%n, set(at, at)), reads(q, (q*5+3)%n, span.Minus(word.Domain(api.Scalars), set(at, at))))
			d.Finals = append(d.Finals, api.Final{From: q})
		}
		return d
	}
	a, b := total(500), total(1024)
	if l, e := subset.Blocks(a, b); len(l) != 1001 || e != api.OK {
		t.Fatalf("Blocks: %d, %d", len(l), e)
	}
	wantSame(t, a, b, 1<<20, true, "", api.OK)
	b.Finals = b.Finals[:1023]
	if ok, w, e := subset.Same(a, b, 1<<20); ok || len(w) == 0 || e != api.OK {
		t.Errorf("Same: %v, %x, %d", ok, w, e)
	}
	// So many sets and blocks that not all that is found of them is kept.
	many := late(13)
	many.Rules = many.Rules[1:]
	for x := range 1000 {
		many.Rules = append(many.Rules, reads(0, 0, set(x, x)))
	}
	many.Rules = append(many.Rules, reads(0, 0, span.Minus(word.Domain(api.Scalars), set(0, 999))))
	many.In, many.Out = api.Scalars, api.Scalars
	for i, r := range many.Rules {
		if r.Guards[0][0] == (api.Span{Lo: 0, Hi: 255}) {
			many.Rules[i].Guards = [][]api.Span{word.Domain(api.Scalars)}
		}
	}
	wantSame(t, many, many, 1<<13, true, "", api.OK)
	wantSame(t, many, many, 1<<13-1, false, "", api.ErrBudget)
}

// roomy is a list with room behind it, in which something stands.
func roomy[T any](l []T, behind T) []T {
	return append(l[:len(l):len(l)], behind, behind)[:len(l)]
}

// whole is a description as a text, with what lies in its lists' room.
func whole(d api.Desc) string {
	out := fmt.Sprint(d.In, d.Out, d.States, d.Start, d.Rules[:cap(d.Rules)], d.Finals[:cap(d.Finals)])
	for _, r := range d.Rules {
		out += fmt.Sprint(r.Guards[:cap(r.Guards)])
		for _, g := range r.Guards {
			out += fmt.Sprint(g[:cap(g)])
		}
	}
	return out
}

// Rule 4: what is handed in isn't changed, its spare room neither, and what is answered is new memory.
func TestMemory(t *testing.T) {
	d := late(3)
	for i, r := range d.Rules {
		r.Guards[0] = roomy(r.Guards[0], api.Span{Lo: 66})
		d.Rules[i].Guards = roomy(r.Guards, set(67, 67))
	}
	d.Rules, d.Finals = roomy(d.Rules, api.Rule{From: 66}), roomy(d.Finals, api.Final{From: 66})
	was := whole(d)
	blocks, _ := subset.Blocks(d, d)
	want := fmt.Sprint(blocks)
	for i := range blocks {
		for k := range blocks[i][:cap(blocks[i])] {
			blocks[i][:cap(blocks[i])][k].Lo = -7
		}
		again, _ := subset.Blocks(d, d)
		if fmt.Sprint(blocks[i+1:]) != fmt.Sprint(again[i+1:]) || fmt.Sprint(again) != want {
			t.Errorf("Blocks share memory: %v, %v", blocks, again)
		}
	}
	_, w, _ := subset.Same(d, late(4), 99)
	clear(w[:cap(w)])
	wantSame(t, d, late(4), 99, false, "a\x00\x00", api.OK)
	if whole(d) != was {
		t.Error("what was handed in is changed")
	}
}
